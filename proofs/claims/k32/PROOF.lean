import PyProof.Rows.All
import Wide.All
import OpenK.AllK
import Wide.FinOn
import HandS.ForMost
import HandS.Codes
import HandS.Steps
import HandS.IsInst
import HandS.Property
import HandS.Wide
import HandS.WideBits
import HandS.Exc
import HandS.Defaults
import HandS.ExcOwn
import HandS.TryOnly
import HandS.WordsExc
import HandS.ExcIs
import HandS.MakeKwOnly
import HandS.RaiseMore
import HandS.Style
import HandS.Zip
import HandS.Iter
import HandS.Walk
import HandS.More
import HandS.SortInts
import PySem.Challenge.RW_thaumatrope_k32_motion_kept_and_predicte
set_option Elab.async false
set_option linter.all false
set_option maxRecDepth 100000
set_option maxHeartbeats 8000000
namespace Vx
open PySem PySem.Spec PyProof.Rows L2

/-! ### heaps -/
def SameX (m : Addr) (H H' : Hp) : Prop := ∀ b o, H b = some o → b ≠ m → H' b = some o
theorem gen_new {H H' : Hp} {p : Addr} {o : HO} (n : H p = none) (h : upd H p o = H') : Same H H' ∧ H' p = some o := by
  subst h
  exact ⟨fun b u e => by rw [upd_ne (ne_of_none e n)]; exact e, upd_same⟩
theorem gen_mut {H H' : Hp} {m : Addr} {o : HO} (h : upd H m o = H') : SameX m H H' ∧ H' m = some o := by
  subst h
  exact ⟨fun b u e n => by rw [upd_ne n]; exact e, upd_same⟩
theorem same_mut {H0 H H' : Hp} {m : Addr} (B : Same H0 H) (x : SameX m H H') (f : H0 m = none) : Same H0 H' :=
  fun b o e => x b o (B b o e) (ne_of_none e f)
theorem map_get {xs : List Int} {i : Nat} {x : V} (h : (xs.map V.int)[i]? = some x) : ∃ o, xs[i]? = some o ∧ x = .int o := by
  rw [List.getElem?_map] at h
  cases e : xs[i]? with
  | none => rw [e] at h; cases h
  | some z => rw [e] at h; exact ⟨z, rfl, (Option.some.inj h).symm⟩
theorem get_len {α : Type} {xs : List α} {i : Nat} {x : α} (h : xs[i]? = some x) : i < xs.length := (List.getElem?_eq_some_iff.mp h).1
theorem eq_int {Q : VK} {H : Hp} {a b : Int} (h : Q (.int a) H) (e : a = b) : Q (.int b) H := e ▸ h
theorem eq_bl {Q : VK} {H : Hp} {a b : Bool} (h : Q (.bl a) H) (e : a = b) : Q (.bl b) H := e ▸ h
theorem small {n : Nat} (h : n ≤ 1000000) : n < sizeLine := Nat.lt_of_le_of_lt h (by decide)
theorem smallE {n : Nat} (h : n ≤ 1000000) : n ≤ sizeLine := Nat.le_of_lt (small h)
theorem snoc_int {xs : List Int} {y : Int} {H : Hp} {p : Addr} (h : H p = some (.lst (xs.map V.int ++ [V.int y]))) : H p = some (.lst ((xs ++ [y]).map V.int)) := by
  rw [List.map_append]; exact h
theorem cat_int {xs ys : List Int} {H : Hp} {p : Addr} (h : H p = some (.lst (xs.map V.int ++ ys.map V.int))) : H p = some (.lst ((xs ++ ys).map V.int)) := by
  rw [List.map_append]; exact h
theorem cast_lst {xs ys : List Int} {H : Hp} {p : Addr} (h : H p = some (.lst (xs.map V.int))) (e : xs = ys) : H p = some (.lst (ys.map V.int)) := e ▸ h

/-! ### tests -/
theorem dT {p : Prop} [Decidable p] (h : decide p = true) : p := of_decide_eq_true h
theorem dF {p : Prop} [Decidable p] (h : ¬ decide p = true) : ¬ p := fun x => h (decide_eq_true x)
theorem iteD {p A B : Prop} [Decidable p] (h1 : p → A) (h2 : ¬ p → B) : if decide p = true then A else B := by
  by_cases h : p
  · rw [if_pos (decide_eq_true h)]; exact h1 h
  · rw [if_neg (fun x => h (of_decide_eq_true x))]; exact h2 h
theorem iteN {p A B : Prop} [Decidable p] (h1 : ¬ p → A) (h2 : p → B) : if (!decide p) = true then A else B := by
  by_cases h : p
  · rw [decide_eq_true h]; exact iteF (h2 h)
  · rw [decide_eq_false h]; exact iteT (h1 h)
theorem iteB {b : Bool} {A B : Prop} (h1 : b = true → A) (h2 : b = false → B) : if b = true then A else B := by
  cases b with
  | true => exact iteT (h1 rfl)
  | false => exact iteF (h2 rfl)
theorem iteBN {b : Bool} {A B : Prop} (h1 : b = false → A) (h2 : b = true → B) : if (!b) = true then A else B := by
  cases b with
  | true => exact iteF (h2 rfl)
  | false => exact iteT (h1 rfl)
theorem iteDT {p A B : Prop} [Decidable p] (h : p) (k : A) : if decide p = true then A else B := by
  rw [if_pos (decide_eq_true h)]; exact k
theorem iteDF {p A B : Prop} [Decidable p] (h : ¬ p) (k : B) : if decide p = true then A else B := by
  rw [if_neg (fun x => h (of_decide_eq_true x))]; exact k
theorem iteNT {p A B : Prop} [Decidable p] (h : ¬ p) (k : A) : if (!decide p) = true then A else B := iteN (fun _ => k) (fun x => (h x).elim)
theorem iteNF {p A B : Prop} [Decidable p] (h : p) (k : B) : if (!decide p) = true then A else B := iteN (fun x => (x h).elim) (fun _ => k)

/-! ### equality of lists of ints -/
theorem eqvAll_ints : ∀ xs ys : List Int, PyData.eqvAll (xs.map PyData.int) (ys.map PyData.int) = decide (xs = ys)
  | [], [] => by simp [PyData.eqvAll]
  | [], y :: ys => by simp [PyData.eqvAll]
  | x :: xs, [] => by simp [PyData.eqvAll]
  | x :: xs, y :: ys => by
    have ih := eqvAll_ints xs ys
    simp only [List.map_cons, PyData.eqvAll, PyData.eqv, ih]
    by_cases h : x = y <;> by_cases h2 : xs = ys <;> simp [h, h2]
end Vx

namespace Vx
open PySem PySem.Spec PyProof.Rows L2
section
variable {X : Cx}
def rEqLi (K : PySem.W.Frag) : R2 := fun x y H Q => ∃ (a b : Addr) (xs ys : List Int), x = .ref a ∧ y = .ref b ∧ SqL K H a (xs.map V.int) ∧ SqL K H b (ys.map V.int) ∧ Q (.bl (decide (xs = ys))) H
def rNeLi (K : PySem.W.Frag) : R2 := fun x y H Q => ∃ (a b : Addr) (xs ys : List Int), x = .ref a ∧ y = .ref b ∧ SqL K H a (xs.map V.int) ∧ SqL K H b (ys.map V.int) ∧ Q (.bl (!decide (xs = ys))) H
theorem dpAll_ints {K : PySem.W.Frag} {H : Hp} : ∀ xs : List Int, DpAll K H (xs.map V.int) (xs.map PyData.int)
  | [] => .nil
  | x :: xs => .cons (.int x) (dpAll_ints xs)
theorem dp_ints {K : PySem.W.Frag} {H : Hp} {a : Addr} {xs : List Int} (h : SqL K H a (xs.map V.int)) : Dp K H (.ref a) (.list (xs.map PyData.int)) := .lst h (dpAll_ints xs)
theorem canLay_ints : ∀ xs : List Int, PyData.canLayAll0 (xs.map PyData.int) = true
  | [] => by simp [PyData.canLayAll0]
  | x :: xs => by simp [PyData.canLayAll0, PyData.canLay0, canLay_ints xs]
theorem depth_ints : ∀ xs : List Int, PyData.depthAll (xs.map PyData.int) = 0
  | [] => by simp [PyData.depthAll]
  | x :: xs => by simp [PyData.depthAll, PyData.depth, depth_ints xs]
theorem shaped_ints (xs : List Int) : SeqAt.shaped (.list (xs.map PyData.int)) = true := by
  unfold SeqAt.shaped
  simp [PyData.canLay0, canLay_ints, PyData.depth, depth_ints]
theorem eqv_ints (xs ys : List Int) : PyData.eqv (.list (xs.map PyData.int)) (.list (ys.map PyData.int)) = decide (xs = ys) := by
  simp only [PyData.eqv]
  exact eqvAll_ints xs ys
theorem op_eqLi (hu : X.A.units + 64 < cLine) : OpR X (compareOp .Eq) (rEqLi X.K) := by
  intro pins s σ H x y v u Q I rx ry h
  obtain ⟨a, b, xs, ys, rfl, rfl, h1, h2, q⟩ := h
  exact op_eqD hu pins s σ H _ _ v u Q I rx ry ⟨_, _, dp_ints h1, dp_ints h2, shaped_ints xs, shaped_ints ys, by rw [eqv_ints]; exact q⟩
theorem op_neLi (hu : X.A.units + 64 < cLine) : OpR X (compareOp .NotEq) (rNeLi X.K) := by
  intro pins s σ H x y v u Q I rx ry h
  obtain ⟨a, b, xs, ys, rfl, rfl, h1, h2, q⟩ := h
  exact op_neD hu pins s σ H _ _ v u Q I rx ry ⟨_, _, dp_ints h1, dp_ints h2, shaped_ints xs, shaped_ints ys, by rw [eqv_ints]; exact q⟩

/-! ### items, slices, repetition, comprehensions of ints -/
def itI (xs : List Int) (i : Int) : Int := (atI xs i).getD 0
theorem atI_int {xs : List Int} {i : Int} (h : -(xs.length : Int) ≤ i ∧ i < xs.length) : atI (xs.map V.int) i = some (.int (itI xs i)) := by
  unfold itI atI
  rw [List.length_map]
  have hk : ∃ j, ixN xs.length i = some j ∧ j < xs.length := by
    unfold ixN
    by_cases h0 : 0 ≤ i
    · refine ⟨i.toNat, ?_, by omega⟩
      rw [if_pos h0, if_pos h.2]
    · refine ⟨(i + xs.length).toNat, ?_, by omega⟩
      rw [if_neg h0, if_pos h.1]
  obtain ⟨j, e, hj⟩ := hk
  rw [e]
  show (xs.map V.int)[j]? = some (V.int ((xs[j]?).getD 0))
  rw [List.getElem?_map, List.getElem?_eq_getElem hj] <;> rfl
def cutI (xs : List Int) (lo hi : Option Int) : List Int := (xs.drop (HT.sIx xs.length 0 lo)).take (HT.sIx xs.length xs.length hi - HT.sIx xs.length 0 lo)
theorem cut_int {xs : List Int} {lo hi : Option Int} {H : Hp} {p : Addr} (h : H p = some (.lst (cutV (xs.map V.int) lo hi))) : H p = some (.lst ((cutI xs lo hi).map V.int)) := by
  rw [h]
  unfold cutV cutI
  rw [List.length_map, List.map_take, List.map_drop]
def rep (xs : List Int) (k : Int) : List Int := (List.replicate k.toNat xs).flatten
theorem rep_int {xs : List Int} {k : Int} {H : Hp} {p : Addr} (h : H p = some (.lst (List.replicate k.toNat (xs.map V.int)).flatten)) : H p = some (.lst ((rep xs k).map V.int)) := by
  rw [h]
  unfold rep
  rw [List.map_flatten, List.map_replicate]
theorem divW_lit {i j : Int} (h : 0 < j) (h2 : j.natAbs.log2 < 9000) : CDivW i j := ⟨h, h2⟩
theorem divW_small {i j : Int} (h : 0 < j) (h2 : j < 2 ^ 128) : CDivW i j := wide_div h (show j.natAbs < 2 ^ 128 by omega) (by decide) (by decide)
theorem comp_list {xs : List Int} {i : Nat} {x y : Int} {f : Int → Int} {H : Hp} {D : Addr} (hi : xs[i]? = some x) (h : H D = some (.lst (((xs.take i).map f).map V.int ++ [V.int y]))) (e : f x = y) : H D = some (.lst (((xs.take (i + 1)).map f).map V.int)) := by
  rw [h, ← e, List.take_succ, hi, List.map_append, List.map_append] <;> rfl
theorem comp_done {xs : List Int} {f : Int → Int} {H : Hp} {D : Addr} (h : H D = some (.lst (((xs.take (xs.map V.int).length).map f).map V.int))) : H D = some (.lst ((xs.map f).map V.int)) := by
  rw [List.length_map, List.take_length] at h
  exact h
theorem comp_range {i : Nat} {y : Int} {f : Nat → Int} {H : Hp} {D : Addr} (h : H D = some (.lst (((List.range i).map f).map V.int ++ [V.int y]))) (e : f i = y) : H D = some (.lst (((List.range (i + 1)).map f).map V.int)) := by
  rw [h, ← e, List.range_succ, List.map_append, List.map_append] <;> rfl
theorem iteBT {b : Bool} {A B : Prop} (h : b = true) (k : A) : if b = true then A else B := by rw [if_pos h]; exact k
theorem iteBF {b : Bool} {A B : Prop} (h : b = false) (k : B) : if b = true then A else B := by rw [if_neg (by rw [h]; decide)]; exact k
theorem take_succ_get {α : Type} {xs : List α} {i : Nat} {x : α} (hi : xs[i]? = some x) : xs.take (i + 1) = xs.take i ++ [x] := by rw [List.take_succ, hi] <;> rfl
end

/-! ### defs of the module, as callers see them -/
section
variable {P : Program} {w : World} {K : PySem.W.Frag} {mg : Str → Option Value} {base : Heap}
structure DefIn (K : PySem.W.Frag) (mg : Str → Option Value) (x : Str) (st : Stmt) (ps : List Str) : Prop where
  ex : ∃ (f : Addr) (fd : FuncData), Fun K x x st f fd ∧ mg x = some (.ref f) ∧ Binds K fd ps []
structure Cal (P : Program) (w : World) (K : PySem.W.Frag) (mg : Str → Option Value) (base : Heap) (k : Nat) (x : Str) (sp : Sp) : Prop where
  ex : ∃ (f : Addr) (fd : FuncData) (ps : List Str), FnOk P w K mg base CX0 k f fd ps sp ∧ mg x = some (.ref f) ∧ PySem.W.keepIn K (.ref f) = true ∧ Binds K fd ps []
theorem DefIn.ok {x : Str} {st : Stmt} {N ps : List Str} {k : Nat} {sp : Sp} (D : DefIn K mg x st ps) (S : FnScope N ps (defScope st)) (len : ∀ vs H Q E, sp vs H Q E → vs.length = ps.length)
    (hbody : ∀ (f : Addr) (cdv : Value) (A : Around) (outer : List Env) (s : Shared) (H : Hp) (vs : List V) (Q : VK) (E : XK), Room k (A.deeper (envOfC x (defScope st) s.heap.objs.size f cdv)) → sp vs H Q E →
      ∃ t, PSs (cxOf CX0 P w K mg base N x (defScope st) f cdv A outer s H E).nox (defBody st) t ∧ t { nx := fun _ H' => Q .non H', rt := Q } (start N vs) H) : Cal P w K mg base (k + 1) x sp := by
  obtain ⟨f, fd, F, hm, b⟩ := D.ex
  exact ⟨f, fd, ps, F.ok S len (fun cdv A outer s H vs Q E hr h => hbody f cdv A outer s H vs Q E hr h), hm, F.kp, b⟩
end
section
variable {X : Cx} {k j : Nat} {x : Str} {sp : Sp} {p pos : Pos} {e : Expr} {es : List Expr} {t : TA}
theorem vx_call (c : Cal X.prog X.w X.K X.mg X.base k x sp) (hr : Room j X.A) (hk : k ≤ j) (hg : Gl X x) (ha : PA X (e :: es) t)
    (hdb : (x == ("__debug__" : Str)) = false := by decide) (he : starEach (e :: es) X.env = (false, eval e X.env) :: starEach es X.env := by rfl) (hpl : (backTo pos (starEach es X.env)).any (·.1) = false := by rfl) :
    PE X (.Call (.Name x p) (e :: es) [] pos) (tCall sp [] E0 t) := by
  obtain ⟨f, fd, ps, F, hm, kp, b⟩ := c.ex
  exact pe_call F (hr.mono hk) hg hm kp b .nil pass0 ha hdb he hpl
end
end Vx

namespace Vx
open PySem PySem.Spec PyProof.Rows L2
section
variable {σ : L2.St} {H : Hp} {ta tb : TE} {x y z : V} {t : TT}
theorem vv_and {a b : Bool} (h1 : Val ta σ H (.bl a)) (h2 : Val tb σ H (.bl b)) : Val (tAndV ta tb) σ H (.bl (a && b)) := fun Q q => h1 _ ⟨a, rfl, by
  cases a with
  | true => exact iteT (h2 Q q)
  | false => exact iteF q⟩
theorem vv_or {a b : Bool} (h1 : Val ta σ H (.bl a)) (h2 : Val tb σ H (.bl b)) : Val (tOrV ta tb) σ H (.bl (a || b)) := fun Q q => h1 _ ⟨a, rfl, by
  cases a with
  | true => exact iteT q
  | false => exact iteF (h2 Q q)⟩
theorem vv_not {a : Bool} (h1 : Val ta σ H (.bl a)) : Val (tNotV ta) σ H (.bl (!a)) := fun Q q => h1 _ ⟨a, rfl, q⟩
theorem vv_un {r : V → Hp → VK → Prop} (ha : Val ta σ H x) (hr : ∀ Q : VK, Q z H → r x H Q) : Val (tUn r ta) σ H z := fun Q q => ha _ (hr Q q)
theorem vv_cmp {p : Int → Int → Bool} (ha : Val ta σ H x) (hb : Val tb σ H y) (hr : ∀ Q : VK, Q z H → ∃ i j, x = .int i ∧ y = .int j ∧ Q (.bl (p i j)) H) : Val (tCmp p ta tb) σ H z := fun Q q => ha _ (hb _ (hr Q q))
theorem vv_call1 {r : List V → Hp → VK → Prop} (ha : Val ta σ H x) (hr : ∀ Q : VK, Q z H → r [x] H Q) : Val (tCB r (tCons ta tNil)) σ H z := fun Q q => ha _ (hr Q q)
theorem vt_cmp {b : Bool} (h : Val ta σ H (.bl b)) : Ans (tB ta) σ H b := fun Q q => h _ ⟨b, rfl, q⟩
theorem vt_val {b : Bool} (h : Val ta σ H (.bl b)) : Ans (tB ta) σ H b := fun Q q => h _ ⟨b, rfl, q⟩
theorem vt_int {i : Int} {K : PySem.W.Frag} (h : Val ta σ H (.int i)) : Ans (fun σ H Q => ta σ H fun x H' => ∃ k, TruV K x H' k ∧ Q k H') σ H (i != 0) := fun Q q => h _ ⟨_, rfl, q⟩
theorem vv_if {p : Prop} [Decidable p] {a b : Int} (ht : Ans t σ H (decide p)) (hx : Val ta σ H (.int a)) (hy : Val tb σ H (.int b)) : Val (tIf t ta tb) σ H (.int (if p then a else b)) := fun Q q => ht _ (by
  by_cases h : p
  · rw [if_pos h] at q; exact iteDT h (hx Q q)
  · rw [if_neg h] at q; exact iteDF h (hy Q q))
theorem vv_ifb {c : Bool} {a b : Int} (ht : Ans t σ H c) (hx : Val ta σ H (.int a)) (hy : Val tb σ H (.int b)) : Val (tIf t ta tb) σ H (.int (if c = true then a else b)) := fun Q q => ht _ (by
  cases c with
  | true => exact iteT (hx Q q)
  | false => exact iteF (hy Q q))
end
end Vx

namespace Vx
open PySem PySem.Spec PyProof.Rows L2
def rLenLi (K : PySem.W.Frag) : List V → Hp → VK → Prop := fun xs H Q => ∃ (p : Addr) (ns : List Int), xs = [.ref p] ∧ SqL K H p (ns.map V.int) ∧ Q (.int (ns.length : Int)) H
theorem call_lenLi {X : Cx} : CallR X (.builtin "len") (rLenLi X.K) := by
  intro pins s σ H xs us Q I r h
  obtain ⟨p, ns, rfl, hs, q⟩ := h
  exact call_len_seq pins s σ H _ us Q I r ⟨p, _, rfl, Or.inl hs, by rw [List.length_map]; exact q⟩
end Vx

namespace Vx
open PySem PySem.Spec PyProof.Rows L2
section
variable {X : Cx} {K : PySem.W.Frag}
theorem ix_listK (hK : X.K = K := by rfl) : IxR X (rIxL K) := hK ▸ ix_list
theorem sl_listK (hK : X.K = K := by rfl) : SlR X (rSlL K) := hK ▸ sl_list
theorem call_lenLiK (hK : X.K = K := by rfl) : CallR X (.builtin "len") (rLenLi K) := hK ▸ call_lenLi
theorem op_eqLiK (hu : X.A.units + 64 < cLine) (hK : X.K = K := by rfl) : OpR X (compareOp .Eq) (rEqLi K) := hK ▸ op_eqLi hu
theorem op_neLiK (hu : X.A.units + 64 < cLine) (hK : X.K = K := by rfl) : OpR X (compareOp .NotEq) (rNeLi K) := hK ▸ op_neLi hu
theorem pi_listK {tg l : Expr} {tl : TE} (hl : PE X l tl) (hK : X.K = K := by rfl) : PI X tg l (iList K tl) := hK ▸ pi_list hl
theorem cr_sumK (hc : X.calm = true) (hK : X.K = K := by rfl) : CallR X (.builtin "sum") (rSum K) := hK ▸ cr_sum hc
theorem cr_maxK (hc : X.calm = true) (hK : X.K = K := by rfl) : CallR X (.builtin "max") (rMax K) := hK ▸ cr_max hc
theorem cr_minK (hc : X.calm = true) (hK : X.K = K := by rfl) : CallR X (.builtin "min") (rMin K) := hK ▸ cr_min hc
end
end Vx

namespace Vx
open PySem PySem.Spec PyProof.Rows L2
theorem tyes_go {σ : L2.St} {H : Hp} {f g : Hp → Prop} (h : f H) : tYes σ H (fun b H3 => if b = true then f H3 else g H3) := by
  show if true = true then f H else g H
  exact iteT h
end Vx

/-! # second part: data of any depth, the stable heap G, the owned addresses O -/
namespace Vx
open PySem PySem.Spec PyProof.Rows L2
mutual
inductive Rp (H : Hp) : V → PyData → Prop
  | non : Rp H .non .none
  | bl (b : Bool) : Rp H (.bl b) (.bool b)
  | int (i : Int) : Rp H (.int i) (.int i)
  | str (x : Str) : Rp H (.str x) (.str x)
  | lst {a : Addr} {xs : List V} {ds : List PyData} : H a = some (.lst xs) → RpAll H xs ds → Rp H (.ref a) (.list ds)
  | tup {a : Addr} {xs : List V} {ds : List PyData} : H a = some (.tup xs) → RpAll H xs ds → Rp H (.ref a) (.tuple ds)
inductive RpAll (H : Hp) : List V → List PyData → Prop
  | nil : RpAll H [] []
  | cons {v : V} {vs : List V} {d : PyData} {ds : List PyData} : Rp H v d → RpAll H vs ds → RpAll H (v :: vs) (d :: ds)
end
mutual
theorem Rp.mono {H H' : Hp} (e : Same H H') : ∀ {v : V} {d : PyData}, Rp H v d → Rp H' v d
  | _, _, .non => .non
  | _, _, .bl b => .bl b
  | _, _, .int i => .int i
  | _, _, .str x => .str x
  | _, _, .lst h r => .lst (e _ _ h) (RpAll.mono e r)
  | _, _, .tup h r => .tup (e _ _ h) (RpAll.mono e r)
theorem RpAll.mono {H H' : Hp} (e : Same H H') : ∀ {vs : List V} {ds : List PyData}, RpAll H vs ds → RpAll H' vs ds
  | _, _, .nil => .nil
  | _, _, .cons a b => .cons (Rp.mono e a) (RpAll.mono e b)
end
mutual
theorem Rp.dp {K : PySem.W.Frag} {H : Hp} : ∀ {v : V} {d : PyData}, Rp H v d → Dp K H v d
  | _, _, .non => .non
  | _, _, .bl b => .bl b
  | _, _, .int i => .int i
  | _, _, .str x => .str x
  | _, _, .lst h r => .lst (SqL.of h) (RpAll.dp r)
  | _, _, .tup h r => .tup (SqT.of h) (RpAll.dp r)
theorem RpAll.dp {K : PySem.W.Frag} {H : Hp} : ∀ {vs : List V} {ds : List PyData}, RpAll H vs ds → DpAll K H vs ds
  | _, _, .nil => .nil
  | _, _, .cons a b => .cons (Rp.dp a) (RpAll.dp b)
end
theorem RpAll.append {H : Hp} : ∀ {xs ys : List V} {ds es : List PyData}, RpAll H xs ds → RpAll H ys es → RpAll H (xs ++ ys) (ds ++ es)
  | _, _, _, _, .nil, s => s
  | _, _, _, _, .cons r t, s => .cons r (RpAll.append t s)
theorem RpAll.ints {H : Hp} : ∀ xs : List Int, RpAll H (xs.map V.int) (xs.map PyData.int)
  | [] => .nil
  | x :: xs => .cons (.int x) (RpAll.ints xs)
theorem RpAll.bls {H : Hp} : ∀ xs : List Bool, RpAll H (xs.map V.bl) (xs.map PyData.bool)
  | [] => .nil
  | x :: xs => .cons (.bl x) (RpAll.bls xs)
theorem RpAll.one {H : Hp} {v : V} {d : PyData} (h : Rp H v d) : RpAll H [v] [d] := .cons h .nil
theorem RpAll.len {H : Hp} : ∀ {vs : List V} {ds : List PyData}, RpAll H vs ds → vs.length = ds.length
  | _, _, .nil => rfl
  | _, _, .cons _ t => by rw [List.length_cons, List.length_cons, RpAll.len t]
theorem RpAll.at {H : Hp} : ∀ {vs : List V} {ds : List PyData} {i : Nat} {v : V}, RpAll H vs ds → vs[i]? = some v → ∃ d, ds[i]? = some d ∧ Rp H v d
  | _, _, _, _, .nil, h => by simp at h
  | _, _, 0, _, .cons r _, h => by
    simp at h
    subst h
    exact ⟨_, rfl, r⟩
  | _, _, i + 1, _, .cons _ t, h => by
    obtain ⟨d, h1, h2⟩ := RpAll.at (i := i) t (by simpa using h)
    exact ⟨d, by simpa using h1, h2⟩
theorem RpAll.at' {H : Hp} : ∀ {vs : List V} {ds : List PyData} {i : Nat} {d : PyData}, RpAll H vs ds → ds[i]? = some d → ∃ v, vs[i]? = some v ∧ Rp H v d
  | _, _, _, _, .nil, h => by simp at h
  | _, _, 0, _, .cons r _, h => by
    simp at h
    subst h
    exact ⟨_, rfl, r⟩
  | _, _, i + 1, _, .cons _ t, h => by
    obtain ⟨v, h1, h2⟩ := RpAll.at' (i := i) t (by simpa using h)
    exact ⟨v, by simpa using h1, h2⟩
theorem RpAll.take {H : Hp} : ∀ (n : Nat) {vs : List V} {ds : List PyData}, RpAll H vs ds → RpAll H (vs.take n) (ds.take n)
  | 0, _, _, _ => by simpa using RpAll.nil
  | n + 1, _, _, .nil => by simpa using RpAll.nil
  | n + 1, _, _, .cons r t => .cons r (RpAll.take n t)
theorem RpAll.drop {H : Hp} : ∀ (n : Nat) {vs : List V} {ds : List PyData}, RpAll H vs ds → RpAll H (vs.drop n) (ds.drop n)
  | 0, _, _, r => r
  | n + 1, _, _, .nil => by simpa using RpAll.nil
  | n + 1, _, _, .cons r t => RpAll.drop n t
theorem RpAll.set {H : Hp} {v : V} {d : PyData} (h : Rp H v d) : ∀ (n : Nat) {vs : List V} {ds : List PyData}, RpAll H vs ds → RpAll H (vs.set n v) (ds.set n d)
  | _, _, _, .nil => .nil
  | 0, _, _, .cons _ t => .cons h t
  | n + 1, _, _, .cons r t => .cons r (RpAll.set h n t)
theorem RpAll.rep {H : Hp} {vs : List V} {ds : List PyData} (h : RpAll H vs ds) : ∀ n : Nat, RpAll H (List.replicate n vs).flatten (List.replicate n ds).flatten
  | 0 => by simpa using RpAll.nil
  | n + 1 => by
    rw [List.replicate_succ, List.flatten_cons, List.replicate_succ, List.flatten_cons]
    exact RpAll.append h (RpAll.rep h n)
theorem RpAll.get {α : Type} {f : α → PyData} {H : Hp} {vs : List V} {xs : List α} {i : Nat} {v : V} (r : RpAll H vs (xs.map f)) (h : vs[i]? = some v) : ∃ x, xs[i]? = some x ∧ Rp H v (f x) := by
  obtain ⟨d, h1, h2⟩ := RpAll.at r h
  rw [List.getElem?_map] at h1
  cases e : xs[i]? with
  | none => rw [e] at h1; cases h1
  | some x =>
    rw [e] at h1
    have : f x = d := Option.some.inj h1
    exact ⟨x, rfl, this ▸ h2⟩
/-- the item at an index, data -/
theorem RpAll.ix {α : Type} {f : α → PyData} {H : Hp} {vs : List V} {xs : List α} {k : Int} (r : RpAll H vs (xs.map f)) (h : -(xs.length : Int) ≤ k ∧ k < xs.length) : ∃ v x, atI vs k = some v ∧ atI xs k = some x ∧ Rp H v (f x) := by
  have hl : vs.length = xs.length := by rw [r.len, List.length_map]
  have hk : ∃ j, ixN xs.length k = some j ∧ j < xs.length := by
    unfold ixN
    by_cases h0 : 0 ≤ k
    · refine ⟨k.toNat, ?_, by omega⟩
      rw [if_pos h0, if_pos h.2]
    · refine ⟨(k + xs.length).toNat, ?_, by omega⟩
      rw [if_neg h0, if_pos h.1]
  obtain ⟨j, e, hj⟩ := hk
  have hx := List.getElem?_eq_getElem hj
  obtain ⟨v, h1, h2⟩ := RpAll.at' (i := j) (d := f xs[j]) r (by rw [List.getElem?_map, hx] <;> rfl)
  refine ⟨v, xs[j], ?_, ?_, h2⟩
  · unfold atI
    rw [hl, e]
    exact h1
  · unfold atI
    rw [e]
    exact hx

/-! ### types -/
def encL {α : Type} (f : α → PyData) (xs : List α) : PyData := .list (xs.map f)
def encT2 {α β : Type} (f : α → PyData) (g : β → PyData) (p : α × β) : PyData := .tuple [f p.1, g p.2]
def encT3 {α β γ : Type} (f : α → PyData) (g : β → PyData) (h : γ → PyData) (p : α × β × γ) : PyData := .tuple [f p.1, g p.2.1, h p.2.2]
def encT4 {α β γ δ : Type} (f : α → PyData) (g : β → PyData) (h : γ → PyData) (i : δ → PyData) (p : α × β × γ × δ) : PyData := .tuple [f p.1, g p.2.1, h p.2.2.1, i p.2.2.2]
structure EncOk {α : Type} [DecidableEq α] (n : Nat) (f : α → PyData) : Prop where
  lay : ∀ x, PyData.canLay0 (f x) = true
  dep : ∀ x, PyData.depth (f x) ≤ n
  eqv : ∀ x y, PyData.eqv (f x) (f y) = decide (x = y)
theorem encOk_int : EncOk 0 PyData.int := ⟨fun _ => by simp [PyData.canLay0], fun _ => by simp [PyData.depth], fun x y => by simp [PyData.eqv]; by_cases h : x = y <;> simp [h]⟩
theorem encOk_bool : EncOk 0 PyData.bool := ⟨fun _ => by simp [PyData.canLay0], fun _ => by simp [PyData.depth], fun x y => by cases x <;> cases y <;> simp [PyData.eqv]⟩
section
variable {α β γ δ : Type} [DecidableEq α] [DecidableEq β] [DecidableEq γ] [DecidableEq δ] {n m l o : Nat} {f : α → PyData} {g : β → PyData} {h : γ → PyData} {i : δ → PyData}
theorem lay_map (ok : EncOk n f) : ∀ xs : List α, PyData.canLayAll0 (xs.map f) = true
  | [] => by simp [PyData.canLayAll0]
  | x :: xs => by simp [PyData.canLayAll0, ok.lay x, lay_map ok xs]
theorem dep_map (ok : EncOk n f) : ∀ xs : List α, PyData.depthAll (xs.map f) ≤ n
  | [] => by simp [PyData.depthAll]
  | x :: xs => by
    have h1 := ok.dep x
    have h2 := dep_map ok xs
    simp only [List.map_cons, PyData.depthAll]
    omega
theorem eqv_map (ok : EncOk n f) : ∀ xs ys : List α, PyData.eqvAll (xs.map f) (ys.map f) = decide (xs = ys)
  | [], [] => by simp [PyData.eqvAll]
  | [], y :: ys => by simp [PyData.eqvAll]
  | x :: xs, [] => by simp [PyData.eqvAll]
  | x :: xs, y :: ys => by
    have ih := eqv_map ok xs ys
    simp only [List.map_cons, PyData.eqvAll, ok.eqv, ih]
    by_cases h : x = y <;> by_cases h2 : xs = ys <;> simp [h, h2]
theorem encOk_L (ok : EncOk n f) : EncOk (n + 1) (encL f) := ⟨fun xs => by simp [encL, PyData.canLay0, lay_map ok], fun xs => by
  have := dep_map ok xs
  simp only [encL, PyData.depth]
  omega, fun xs ys => by simp only [encL, PyData.eqv]; exact eqv_map ok xs ys⟩
theorem encOk_T2 (ok : EncOk n f) (ok2 : EncOk m g) : EncOk (max n m + 1) (encT2 f g) := ⟨fun x => by simp [encT2, PyData.canLay0, PyData.canLayAll0, ok.lay, ok2.lay], fun x => by
  have h1 := ok.dep x.1
  have h2 := ok2.dep x.2
  simp only [encT2, PyData.depth, PyData.depthAll]
  omega, fun x y => by
  obtain ⟨a, b⟩ := x
  obtain ⟨c, d⟩ := y
  simp only [encT2, PyData.eqv, PyData.eqvAll, ok.eqv, ok2.eqv, Prod.mk.injEq]
  by_cases h1 : a = c <;> by_cases h2 : b = d <;> simp [h1, h2]⟩
theorem encOk_T3 (ok : EncOk n f) (ok2 : EncOk m g) (ok3 : EncOk l h) : EncOk (max n (max m l) + 1) (encT3 f g h) := ⟨fun x => by simp [encT3, PyData.canLay0, PyData.canLayAll0, ok.lay, ok2.lay, ok3.lay], fun x => by
  have h1 := ok.dep x.1
  have h2 := ok2.dep x.2.1
  have h3 := ok3.dep x.2.2
  simp only [encT3, PyData.depth, PyData.depthAll]
  omega, fun x y => by
  obtain ⟨a, b, e⟩ := x
  obtain ⟨c, d, e'⟩ := y
  simp only [encT3, PyData.eqv, PyData.eqvAll, ok.eqv, ok2.eqv, ok3.eqv, Prod.mk.injEq]
  by_cases h1 : a = c <;> by_cases h2 : b = d <;> by_cases h3 : e = e' <;> simp [h1, h2, h3]⟩
theorem encOk_T4 (ok : EncOk n f) (ok2 : EncOk m g) (ok3 : EncOk l h) (ok4 : EncOk o i) : EncOk (max n (max m (max l o)) + 1) (encT4 f g h i) := ⟨fun x => by simp [encT4, PyData.canLay0, PyData.canLayAll0, ok.lay, ok2.lay, ok3.lay, ok4.lay], fun x => by
  have h1 := ok.dep x.1
  have h2 := ok2.dep x.2.1
  have h3 := ok3.dep x.2.2.1
  have h4 := ok4.dep x.2.2.2
  simp only [encT4, PyData.depth, PyData.depthAll]
  omega, fun x y => by
  obtain ⟨a, b, e, u⟩ := x
  obtain ⟨c, d, e', u'⟩ := y
  simp only [encT4, PyData.eqv, PyData.eqvAll, ok.eqv, ok2.eqv, ok3.eqv, ok4.eqv, Prod.mk.injEq]
  by_cases h1 : a = c <;> by_cases h2 : b = d <;> by_cases h3 : e = e' <;> by_cases h4 : u = u' <;> simp [h1, h2, h3, h4]⟩
end
section
variable {X : Cx} {α : Type} [DecidableEq α] {n : Nat} {f : α → PyData}
def rEqT (f : α → PyData) : R2 := fun x y H Q => ∃ (a b : α), Rp H x (f a) ∧ Rp H y (f b) ∧ Q (.bl (decide (a = b))) H
def rNeT (f : α → PyData) : R2 := fun x y H Q => ∃ (a b : α), Rp H x (f a) ∧ Rp H y (f b) ∧ Q (.bl (!decide (a = b))) H
theorem shaped_of (ok : EncOk n f) (hn : n ≤ 64) (a : α) : SeqAt.shaped (f a) = true := by
  unfold SeqAt.shaped
  have h := ok.dep a
  rw [ok.lay]
  simp
  omega
theorem op_eqT (ok : EncOk n f) (hu : X.A.units + 64 < cLine) (hn : n ≤ 64 := by decide) : OpR X (compareOp .Eq) (rEqT f) := by
  intro pins s σ H x y v u Q I rx ry h
  obtain ⟨a, b, h1, h2, q⟩ := h
  exact op_eqD hu pins s σ H _ _ v u Q I rx ry ⟨_, _, h1.dp, h2.dp, shaped_of ok hn a, shaped_of ok hn b, by rw [ok.eqv]; exact q⟩
theorem op_neT (ok : EncOk n f) (hu : X.A.units + 64 < cLine) (hn : n ≤ 64 := by decide) : OpR X (compareOp .NotEq) (rNeT f) := by
  intro pins s σ H x y v u Q I rx ry h
  obtain ⟨a, b, h1, h2, q⟩ := h
  exact op_neD hu pins s σ H _ _ v u Q I rx ry ⟨_, _, h1.dp, h2.dp, shaped_of ok hn a, shaped_of ok hn b, by rw [ok.eqv]; exact q⟩
end
section
variable {H : Hp} {v : V} {α β γ δ : Type} {f : α → PyData} {g : β → PyData} {h : γ → PyData} {i : δ → PyData}
theorem rp_int {x : Int} (r : Rp H v (.int x)) : v = .int x := by cases r; rfl
theorem rp_bool {x : Bool} (r : Rp H v (.bool x)) : v = .bl x := by cases r; rfl
theorem rp_str {x : Str} (r : Rp H v (.str x)) : v = .str x := by cases r; rfl
theorem rp_list {xs : List α} (r : Rp H v (encL f xs)) : ∃ a vs, v = .ref a ∧ H a = some (.lst vs) ∧ RpAll H vs (xs.map f) := by
  unfold encL at r
  cases r with
  | lst h1 h2 => exact ⟨_, _, rfl, h1, h2⟩
theorem rpAll_ints : ∀ {vs : List V} {xs : List Int}, RpAll H vs (xs.map PyData.int) → vs = xs.map V.int
  | _, [], .nil => rfl
  | _, x :: xs, .cons r t => by rw [rp_int r, rpAll_ints t] <;> rfl
theorem rp_ints {xs : List Int} (r : Rp H v (encL PyData.int xs)) : ∃ a, v = .ref a ∧ H a = some (.lst (xs.map V.int)) := by
  obtain ⟨a, vs, e, h1, h2⟩ := rp_list r
  rw [rpAll_ints h2] at h1
  exact ⟨a, e, h1⟩
theorem rp_tup2 {x : α × β} (r : Rp H v (encT2 f g x)) : ∃ a v1 v2, v = .ref a ∧ H a = some (.tup [v1, v2]) ∧ Rp H v1 (f x.1) ∧ Rp H v2 (g x.2) := by
  unfold encT2 at r
  cases r with
  | tup h1 h2 =>
    cases h2 with
    | cons a b =>
      cases b with
      | cons b c =>
        cases c
        exact ⟨_, _, _, rfl, h1, a, b⟩
theorem rp_tup3 {x : α × β × γ} (r : Rp H v (encT3 f g h x)) : ∃ a v1 v2 v3, v = .ref a ∧ H a = some (.tup [v1, v2, v3]) ∧ Rp H v1 (f x.1) ∧ Rp H v2 (g x.2.1) ∧ Rp H v3 (h x.2.2) := by
  unfold encT3 at r
  cases r with
  | tup h1 h2 =>
    cases h2 with
    | cons a b =>
      cases b with
      | cons b c =>
        cases c with
        | cons c d =>
          cases d
          exact ⟨_, _, _, _, rfl, h1, a, b, c⟩
theorem rp_mk_list {a : Addr} {vs : List V} {xs : List α} (h1 : H a = some (.lst vs)) (h2 : RpAll H vs (xs.map f)) : Rp H (.ref a) (encL f xs) := .lst h1 h2
theorem rp_mk_ints {a : Addr} {xs : List Int} (h1 : H a = some (.lst (xs.map V.int))) : Rp H (.ref a) (encL PyData.int xs) := .lst h1 (RpAll.ints xs)
theorem rp_mk2 {a : Addr} {v1 v2 : V} {x : α} {y : β} (h1 : H a = some (.tup [v1, v2])) (r1 : Rp H v1 (f x)) (r2 : Rp H v2 (g y)) : Rp H (.ref a) (encT2 f g (x, y)) := .tup h1 (.cons r1 (.cons r2 .nil))
theorem rp_mk3 {a : Addr} {v1 v2 v3 : V} {x : α} {y : β} {z : γ} (h1 : H a = some (.tup [v1, v2, v3])) (r1 : Rp H v1 (f x)) (r2 : Rp H v2 (g y)) (r3 : Rp H v3 (h z)) : Rp H (.ref a) (encT3 f g h (x, y, z)) := .tup h1 (.cons r1 (.cons r2 (.cons r3 .nil)))
end

/-! ### the two heaps -/
def SameXs (L : List Addr) (H H' : Hp) : Prop := ∀ b o, H b = some o → b ∉ L → H' b = some o
theorem SameXs.of {H H' : Hp} {m : Addr} (x : SameX m H H') : SameXs [m] H H' := fun b o e n => x b o e (fun z => n (by rw [z]; exact List.mem_cons_self))
theorem ni1 {b m : Addr} (h : b ≠ m) : b ∉ [m] := by simpa using h
theorem ni2 {b m n : Addr} (h : b ≠ m) (h2 : b ≠ n) : b ∉ [m, n] := by simp [h, h2]
theorem ni3 {b m n o : Addr} (h : b ≠ m) (h2 : b ≠ n) (h3 : b ≠ o) : b ∉ [m, n, o] := by simp [h, h2, h3]
theorem ni4 {b m n o p : Addr} (h : b ≠ m) (h2 : b ≠ n) (h3 : b ≠ o) (h4 : b ≠ p) : b ∉ [m, n, o, p] := by simp [h, h2, h3, h4]
def hideL (L : List Addr) (H : Hp) : Hp := fun b => if b ∈ L then none else H b
theorem hideL_same (L : List Addr) (H : Hp) : Same (hideL L H) H := fun b o e => by
  unfold hideL at e
  split at e
  · cases e
  · exact e
theorem hideL_in {L : List Addr} {H : Hp} {b : Addr} (h : b ∈ L) : hideL L H b = none := if_pos h
theorem hideL_out {L : List Addr} {H : Hp} {b : Addr} (h : b ∉ L) : hideL L H b = H b := if_neg h
/-- M: owned from outside; H0, G0: at the entry; G: what stays as it is; O: what may change -/
structure Sep (M : List Addr) (H0 G0 G H : Hp) (O : List Addr) : Prop where
  base : SameXs M H0 H
  pm : ∀ a ∈ M, H a ≠ none
  sG : Same G H
  g0 : Same G0 G
  gn : ∀ b, H0 b ≠ none → G0 b = none → G b = none
  ow : ∀ a ∈ O, G a = none ∧ H a ≠ none ∧ (a ∈ M ∨ H0 a = none)
theorem all_nil {P : Addr → Prop} : ∀ x ∈ ([] : List Addr), P x := fun x h => by cases h
theorem all_cons {P : Addr → Prop} {a : Addr} {l : List Addr} (h : P a) (t : ∀ x ∈ l, P x) : ∀ x ∈ a :: l, P x := fun x hx => by
  cases hx with
  | head => exact h
  | tail _ hx => exact t x hx
theorem some_ne {H : Hp} {a : Addr} {o : HO} (h : H a = some o) : H a ≠ none := by
  rw [h]
  exact fun z => nomatch z
theorem same_ne {H H' : Hp} {a : Addr} (e : Same H H') (h : H a ≠ none) : H' a ≠ none := by
  cases q : H a with
  | none => exact absurd q h
  | some o => exact some_ne (e a o q)
section
variable {M : List Addr} {H0 G0 G H H' : Hp} {O : List Addr} {p m : Addr} {o : HO}
theorem Sep.start (M : List Addr) (H : Hp) (hM : ∀ a ∈ M, H a ≠ none) : Sep M H (hideL M H) (hideL M H) H M :=
  ⟨fun _ _ e _ => e, hM, hideL_same M H, Same.refl _, fun _ _ e => e, fun a ha => ⟨hideL_in ha, hM a ha, .inl ha⟩⟩
theorem Sep.startG {G H : Hp} (e : Same G H) : Sep [] H G G H [] := ⟨fun _ _ e _ => e, all_nil, e, Same.refl _, fun _ _ e => e, fun a ha => by cases ha⟩
theorem Sep.start0 (H : Hp) : Sep [] H H H H [] := Sep.startG (Same.refl H)
theorem Sep.b0 (S : Sep [] H0 G0 G H O) : Same H0 H := fun b o e => S.base b o e List.not_mem_nil
theorem Sep.free (S : Sep M H0 G0 G H O) {q : Addr} (n : H q = none) : H0 q = none := by
  cases e : H0 q with
  | none => rfl
  | some o =>
    by_cases h : q ∈ M
    · exact absurd n (S.pm q h)
    · rw [S.base q o e h] at n
      cases n
theorem Sep.same (S : Sep M H0 G0 G H O) (e : Same H H') : Sep M H0 G0 G H' O :=
  ⟨fun b o h n => e b o (S.base b o h n), fun a ha => same_ne e (S.pm a ha), S.sG.trans e, S.g0, S.gn, fun a ha => ⟨(S.ow a ha).1, same_ne e (S.ow a ha).2.1, (S.ow a ha).2.2⟩⟩
theorem Sep.gfree (S : Sep M H0 G0 G H O) {q : Addr} (n : H q = none) : G q = none := by
  cases e : G q with
  | none => rfl
  | some o => rw [S.sG q o e] at n; cases n
theorem Sep.new (S : Sep M H0 G0 G H O) (n : H p = none) (e : Same H H') (h : H' p = some o) (hm : H0 p = none) : Sep M H0 G0 G H' (p :: O) := by
  have S1 := S.same e
  refine ⟨S1.base, S1.pm, S1.sG, S1.g0, S1.gn, fun a ha => ?_⟩
  cases ha with
  | head => exact ⟨S.gfree n, some_ne h, .inr hm⟩
  | tail _ ha => exact S1.ow a ha
theorem Sep.grow (S : Sep M H0 G0 G H O) (n : H p = none) (e : Same H H') (h : H' p = some o) (hm : H0 p = none) : ∃ G', Same G G' ∧ G' p = some o ∧ Sep M H0 G0 G' H' O := by
  have S1 := S.same e
  have ng := S.gfree n
  refine ⟨upd G p o, fun b u q => by rw [upd_ne (ne_of_none q ng)]; exact q, upd_same, S1.base, S1.pm, fun b u q => ?_, fun b u q => ?_, fun b hb gb => ?_, fun a ha => ?_⟩
  · by_cases z : b = p
    · subst z
      rw [upd_same] at q
      exact q ▸ h
    · rw [upd_ne z] at q
      exact S1.sG b u q
  · have := S.g0 b u q
    rw [upd_ne (ne_of_none this ng)]
    exact this
  · by_cases z : b = p
    · subst z
      exact absurd hm hb
    · rw [upd_ne z]
      exact S.gn b hb gb
  · have hne : a ≠ p := fun z => (S.ow a ha).2.1 (by rw [z]; exact n)
    rw [upd_ne hne]
    exact S1.ow a ha
theorem Sep.mut (S : Sep M H0 G0 G H O) {L : List Addr} (x : SameXs L H H') (hL : ∀ a ∈ L, a ∈ O) (hs : ∀ a ∈ L, H' a ≠ none) : Sep M H0 G0 G H' O := by
  have keep : ∀ a, H a ≠ none → H' a ≠ none := fun a h => by
    by_cases hb : a ∈ L
    · exact hs a hb
    · cases q : H a with
      | none => exact absurd q h
      | some o => exact some_ne (x a o q hb)
  refine ⟨fun b o e n => ?_, fun a ha => keep a (S.pm a ha), fun b o e => ?_, S.g0, S.gn, fun a ha => ⟨(S.ow a ha).1, keep a (S.ow a ha).2.1, (S.ow a ha).2.2⟩⟩
  · refine x b o (S.base b o e n) fun hb => ?_
    rcases (S.ow b (hL b hb)).2.2 with z | z
    · exact n z
    · rw [e] at z; cases z
  · refine x b o (S.sG b o e) fun hb => ?_
    have := (S.ow b (hL b hb)).1
    rw [e] at this
    cases this
theorem Sep.mut1 (S : Sep M H0 G0 G H O) (x : SameX m H H') (hm : m ∈ O) (h : H' m = some o) : Sep M H0 G0 G H' O :=
  S.mut (SameXs.of x) (all_cons hm all_nil) (all_cons (some_ne h) all_nil)
theorem Sep.sub (S : Sep M H0 G0 G H O) {O' : List Addr} (h : ∀ a ∈ O', a ∈ O) : Sep M H0 G0 G H O' := ⟨S.base, S.pm, S.sG, S.g0, S.gn, fun a ha => S.ow a (h a ha)⟩
/-- what was owned and is to stay as it is from now on -/
theorem Sep.freeze (S : Sep M H0 G0 G H O) {O' : List Addr} (hp : p ∈ O) (h : H p = some o) (hm : H0 p = none) (hO : ∀ a ∈ O', a ∈ O ∧ a ≠ p) : ∃ G', Same G G' ∧ G' p = some o ∧ Sep M H0 G0 G' H O' := by
  have ng := (S.ow p hp).1
  refine ⟨upd G p o, fun b u q => by rw [upd_ne (ne_of_none q ng)]; exact q, upd_same, S.base, S.pm, fun b u q => ?_, fun b u q => ?_, fun b hb gb => ?_, fun a ha => ?_⟩
  · by_cases z : b = p
    · subst z
      rw [upd_same] at q
      exact q ▸ h
    · rw [upd_ne z] at q
      exact S.sG b u q
  · have := S.g0 b u q
    rw [upd_ne (ne_of_none this ng)]
    exact this
  · by_cases z : b = p
    · subst z
      exact absurd hm hb
    · rw [upd_ne z]
      exact S.gn b hb gb
  · rw [upd_ne (hO a ha).2]
    exact S.ow a (hO a ha).1
/-- a callee that hands on data in a stable heap of its own -/
theorem Sep.step (S : Sep M H0 G0 G H O) {G' : Hp} (e : Same H H') (eG : Same G G') (sG : Same G' H') (hn : ∀ b, H b ≠ none → G b = none → G' b = none) : Sep M H0 G0 G' H' O := by
  have S1 := S.same e
  refine ⟨S1.base, S1.pm, sG, S.g0.trans eG, fun b hb gb => ?_, fun a ha => ⟨hn a (S.ow a ha).2.1 (S.ow a ha).1, (S1.ow a ha).2⟩⟩
  refine hn b (fun z => ?_) (S.gn b hb gb)
  exact hb (S.free z)
theorem Sep.hid (S : Sep M H0 G0 G H O) {L : List Addr} (h : ∀ a ∈ L, a ∈ O) : Same G (hideL L H) := fun b o e => by
  rw [hideL_out fun z => by
    have := (S.ow b (h b z)).1
    rw [e] at this
    cases this]
  exact S.sG b o e
end
end Vx

namespace Vx
open PySem PySem.Spec PyProof.Rows L2
/-! ### lists of plain things (f : V.int, V.bl, V.str) -/
section
variable {α : Type} {f : α → V} {H : Hp} {p : Addr}
theorem cat_map {xs ys : List α} (h : H p = some (.lst (xs.map f ++ ys.map f))) : H p = some (.lst ((xs ++ ys).map f)) := by
  rw [List.map_append]; exact h
theorem snoc_map {xs : List α} {y : α} (h : H p = some (.lst (xs.map f ++ [f y]))) : H p = some (.lst ((xs ++ [y]).map f)) := by
  rw [List.map_append]; exact h
def repL (xs : List α) (k : Int) : List α := (List.replicate k.toNat xs).flatten
theorem rep_map {xs : List α} {k : Int} (h : H p = some (.lst (List.replicate k.toNat (xs.map f)).flatten)) : H p = some (.lst ((repL xs k).map f)) := by
  rw [h]
  unfold repL
  rw [List.map_flatten, List.map_replicate]
def cutL (xs : List α) (lo hi : Option Int) : List α := (xs.drop (HT.sIx xs.length 0 lo)).take (HT.sIx xs.length xs.length hi - HT.sIx xs.length 0 lo)
theorem cut_map {xs : List α} {lo hi : Option Int} (h : H p = some (.lst (cutV (xs.map f) lo hi))) : H p = some (.lst ((cutL xs lo hi).map f)) := by
  rw [h]
  unfold cutV cutL
  rw [List.length_map, List.map_take, List.map_drop]
theorem cast_map {xs ys : List α} (h : H p = some (.lst (xs.map f))) (e : xs = ys) : H p = some (.lst (ys.map f)) := e ▸ h
theorem drop_map {xs : List α} (h : H p = some (.lst (xs.map f).dropLast)) : H p = some (.lst (xs.dropLast.map f)) := by
  rw [h, List.map_dropLast]
theorem ixN_some {n : Nat} {k : Int} (h : -(n : Int) ≤ k ∧ k < n) : ∃ j, ixN n k = some j ∧ j < n := by
  unfold ixN
  by_cases h0 : 0 ≤ k
  · exact ⟨k.toNat, by rw [if_pos h0, if_pos h.2], by omega⟩
  · exact ⟨(k + n).toNat, by rw [if_neg h0, if_pos h.1], by omega⟩
def itD [Inhabited α] (xs : List α) (k : Int) : α := (atI xs k).getD default
theorem atI_map [Inhabited α] {xs : List α} {k : Int} (h : -(xs.length : Int) ≤ k ∧ k < xs.length) : atI (xs.map f) k = some (f (itD xs k)) := by
  obtain ⟨j, e, hj⟩ := ixN_some h
  unfold itD atI
  rw [List.length_map, e]
  show (xs.map f)[j]? = some (f ((xs[j]?).getD default))
  rw [List.getElem?_map, List.getElem?_eq_getElem hj] <;> rfl
def setL (xs : List α) (k : Int) (y : α) : List α := xs.set ((ixN xs.length k).getD 0) y
theorem ixN_map {xs : List α} {k : Int} (h : -(xs.length : Int) ≤ k ∧ k < xs.length) : ixN (xs.map f).length k = some ((ixN xs.length k).getD 0) := by
  obtain ⟨j, e, hj⟩ := ixN_some h
  rw [List.length_map, e] <;> rfl
theorem set_map {xs : List α} {k : Int} {y : α} (h : H p = some (.lst ((xs.map f).set ((ixN xs.length k).getD 0) (f y)))) : H p = some (.lst ((setL xs k y).map f)) := by
  rw [h]
  unfold setL
  rw [List.map_set]
def lastD [Inhabited α] (xs : List α) : α := xs.getLastD default
theorem pop_map [Inhabited α] {xs : List α} (h : xs ≠ []) : (xs.map f)[(xs.map f).length - 1]? = some (f (lastD xs)) := by
  rw [← List.getLast?_eq_getElem?, List.getLast?_map]
  unfold lastD
  cases e : xs.getLast? with
  | none => exact absurd (List.getLast?_eq_none_iff.mp e) h
  | some y =>
    rw [List.getLastD_eq_getLast?, e] <;> rfl
end
/-! ### lists of data -/
section
variable {α β : Type} {f : α → PyData} {g : β → PyData} {G : Hp} {vs ws : List V} {xs ys : List α}
theorem app_map (a : RpAll G vs (xs.map f)) (b : RpAll G ws (ys.map f)) : RpAll G (vs ++ ws) ((xs ++ ys).map f) := by
  rw [List.map_append]; exact a.append b
theorem one_map {v : V} {y : α} (a : RpAll G vs (xs.map f)) (b : Rp G v (f y)) : RpAll G (vs ++ [v]) ((xs ++ [y]).map f) := by
  rw [List.map_append]; exact a.append (.one b)
theorem rep_all (k : Int) (a : RpAll G vs (xs.map f)) : RpAll G (List.replicate k.toNat vs).flatten ((repL xs k).map f) := by
  unfold repL
  rw [List.map_flatten, List.map_replicate]
  exact a.rep _
theorem cut_all (lo hi : Option Int) (a : RpAll G vs (xs.map f)) : RpAll G (cutV vs lo hi) ((cutL xs lo hi).map f) := by
  unfold cutV cutL
  rw [a.len, List.length_map, List.map_take, List.map_drop]
  exact (a.drop _).take _
theorem rp_cast {v : V} {d e : PyData} (r : Rp G v d) (h : d = e) : Rp G v e := h ▸ r
theorem comp_listD {i : Nat} {x : α} {y : β} {v : V} {h : α → β} (hi : xs[i]? = some x) (a : RpAll G vs (((xs.take i).map h).map g)) (r : Rp G v (g y)) (e : h x = y) : RpAll G (vs ++ [v]) (((xs.take (i + 1)).map h).map g) := by
  rw [take_succ_get hi, List.map_append, List.map_append]
  exact a.append (.one (e ▸ r))
theorem comp_rangeD {i : Nat} {y : β} {v : V} {h : Nat → β} (a : RpAll G vs (((List.range i).map h).map g)) (r : Rp G v (g y)) (e : h i = y) : RpAll G (vs ++ [v]) (((List.range (i + 1)).map h).map g) := by
  rw [List.range_succ, List.map_append, List.map_append]
  exact a.append (.one (e ▸ r))
theorem comp_doneD {n : Nat} {h : List α → List β} (hl : n = xs.length) (a : RpAll G vs ((h (xs.take n)).map g)) : RpAll G vs ((h xs).map g) := by
  rw [hl, List.take_length] at a
  exact a
theorem comp_listFD {i : Nat} {x : α} {y : β} {v : V} {h : α → β} {q : α → Bool} (hi : xs[i]? = some x) (hq : q x = true) (a : RpAll G vs ((((xs.take i).filter q).map h).map g)) (r : Rp G v (g y)) (e : h x = y) : RpAll G (vs ++ [v]) ((((xs.take (i + 1)).filter q).map h).map g) := by
  rw [take_succ_get hi, List.filter_append, List.filter_cons, if_pos hq, List.map_append, List.map_append]
  exact a.append (.one (e ▸ r))
theorem skip_listD {i : Nat} {x : α} {h : α → β} {q : α → Bool} (hi : xs[i]? = some x) (hq : q x = false) (a : RpAll G vs ((((xs.take i).filter q).map h).map g)) : RpAll G vs ((((xs.take (i + 1)).filter q).map h).map g) := by
  rw [take_succ_get hi, List.filter_append, List.filter_cons, if_neg (by rw [hq]; decide), List.filter_nil, List.append_nil]
  exact a
end
section
variable {α β : Type} {f : β → V} {H : Hp} {D : Addr} {xs : List α}
theorem compM_list {i : Nat} {x : α} {y : β} {h : α → β} (hi : xs[i]? = some x) (a : H D = some (.lst (((xs.take i).map h).map f ++ [f y]))) (e : h x = y) : H D = some (.lst (((xs.take (i + 1)).map h).map f)) := by
  rw [a, ← e, take_succ_get hi, List.map_append, List.map_append] <;> rfl
theorem compM_range {i : Nat} {y : β} {h : Nat → β} (a : H D = some (.lst (((List.range i).map h).map f ++ [f y]))) (e : h i = y) : H D = some (.lst (((List.range (i + 1)).map h).map f)) := by
  rw [a, ← e, List.range_succ, List.map_append, List.map_append] <;> rfl
theorem compM_done {n : Nat} {h : List α → List β} (hl : n = xs.length) (a : H D = some (.lst ((h (xs.take n)).map f))) : H D = some (.lst ((h xs).map f)) := by
  rw [hl, List.take_length] at a
  exact a
theorem compM_listF {i : Nat} {x : α} {y : β} {h : α → β} {q : α → Bool} (hi : xs[i]? = some x) (hq : q x = true) (a : H D = some (.lst ((((xs.take i).filter q).map h).map f ++ [f y]))) (e : h x = y) : H D = some (.lst ((((xs.take (i + 1)).filter q).map h).map f)) := by
  rw [a, ← e, take_succ_get hi, List.filter_append, List.filter_cons, if_pos hq, List.map_append, List.map_append] <;> rfl
theorem skipM_list {i : Nat} {x : α} {h : α → β} {q : α → Bool} (hi : xs[i]? = some x) (hq : q x = false) (a : H D = some (.lst ((((xs.take i).filter q).map h).map f))) : H D = some (.lst ((((xs.take (i + 1)).filter q).map h).map f)) := by
  rw [a, take_succ_get hi, List.filter_append, List.filter_cons, if_neg (by rw [hq]; decide), List.filter_nil, List.append_nil]
theorem compM_rangeF {i : Nat} {y : β} {h : Nat → β} {q : Nat → Bool} (hq : q i = true) (a : H D = some (.lst ((((List.range i).filter q).map h).map f ++ [f y]))) (e : h i = y) : H D = some (.lst ((((List.range (i + 1)).filter q).map h).map f)) := by
  rw [a, ← e, List.range_succ, List.filter_append, List.filter_cons, if_pos hq, List.map_append, List.map_append] <;> rfl
theorem skipM_range {i : Nat} {h : Nat → β} {q : Nat → Bool} (hq : q i = false) (a : H D = some (.lst ((((List.range i).filter q).map h).map f))) : H D = some (.lst ((((List.range (i + 1)).filter q).map h).map f)) := by
  rw [a, List.range_succ, List.filter_append, List.filter_cons, if_neg (by rw [hq]; decide), List.filter_nil, List.append_nil]
end
/-! ### more rules -/
section
variable {X : Cx} {K : PySem.W.Frag}
theorem ix_tupK (hK : X.K = K := by rfl) : IxR X (rIxT K) := hK ▸ ix_tup
def rLenLK (K : PySem.W.Frag) : List V → Hp → VK → Prop := fun xs H Q => ∃ (p : Addr) (vs : List V) (n : Nat), xs = [.ref p] ∧ SqL K H p vs ∧ vs.length = n ∧ Q (.int (n : Int)) H
theorem call_lenLK (hK : X.K = K := by rfl) : CallR X (.builtin "len") (rLenLK K) := by
  subst hK
  intro pins s σ H xs us Q I r h
  obtain ⟨p, vs, n, rfl, hs, hn, q⟩ := h
  exact call_len_seq pins s σ H _ us Q I r ⟨p, _, rfl, Or.inl hs, by rw [hn]; exact q⟩
def rListLK (K : PySem.W.Frag) : List V → Hp → VK → Prop := fun xs H Q => ∃ (p : Addr) (vs : List V), xs = [.ref p] ∧ SqL K H p vs ∧ ∀ l, H l = none → Q (.ref l) (upd H l (.lst vs))
theorem call_listLK (hK : X.K = K := by rfl) : CallR X (.type "list") (rListLK K) := by
  subst hK
  intro pins s σ H xs us Q I r h
  obtain ⟨p, vs, rfl, hs, q⟩ := h
  exact call_list_of pins s σ H _ us Q I r ⟨p, _, rfl, Or.inl hs, q⟩
theorem cr_anyK (hc : X.calm = true) (hK : X.K = K := by rfl) : CallR X (.builtin "any") (rAny K) := hK ▸ cr_any hc
theorem cr_allK (hc : X.calm = true) (hK : X.K = K := by rfl) : CallR X (.builtin "all") (rAll K) := hK ▸ cr_all hc
theorem pi_tupK {tg l : Expr} {tl : TE} (hl : PE X l tl) (hK : X.K = K := by rfl) : PI X tg l (iTup K tl) := hK ▸ pi_tup hl
theorem pip {op : Operator} {r : R2} (h : OpR X (inplaceOp op) r) : PIp X op r := fun pins s σ H x y v u Q I rx ry q => h pins s σ H x y v u Q I rx ry q
/-- an item at a place from 0 on, by itself (ahead of o[i] op= e) -/
def rIxP (K : PySem.W.Frag) : R2 := fun x y H Q => ∃ (p : Addr) (xs : List V) (k : Int) (v : V), x = .ref p ∧ y = .int k ∧ SqL K H p xs ∧ 0 ≤ k ∧ k < 2 ^ 62 ∧ atI xs k = some v ∧ Q v H
theorem pget_list (hK : X.K = K := by rfl) : PGet X (rIxP K) := by
  subst hK
  intro pins s σ H o i ov iv Q I ro ri h
  obtain ⟨p, xs, k, v, rfl, rfl, hq, h0, h62, ha, q⟩ := h
  cases ro
  obtain ⟨t, rfl⟩ := ri
  obtain ⟨its, r, pl, hz⟩ := I.list hq
  obtain ⟨j, h1, h2, h3, h4, h5⟩ := atI_get ha
  obtain ⟨w, ew, rw'⟩ := r.get h2
  have hj : k.toNat = j := by
    rw [seqIndex_of h0 h5] at h1
    exact Option.some.inj h1
  exact getItem_listL pl.isList h0 (by omega) (by rw [hj]; simpa using ew) ⟨v, H, I, rw', q⟩
theorem tru_map {α : Type} [DecidableEq α] {f : α → V} {xs : List α} : (!decide (xs = [])) = !(xs.map f).isEmpty := by
  cases xs <;> simp
end
end Vx

namespace Vx
open PySem PySem.Spec PyProof.Rows L2
/-! ### objects -/
section
variable {M : List Addr} {H0 G0 G H H' : Hp} {O : List Addr} {p m : Addr} {o : HO}
theorem gen_obj {x dx : Addr} {o1 o2 : HO} (nx : H x = none) (nd : H dx = none) (ne : dx ≠ x) (h : upd (upd H dx o1) x o2 = H') : Same H H' ∧ H' x = some o2 := by
  subst h
  exact ⟨fun b u e => by rw [upd_ne (ne_of_none e nx), upd_ne (ne_of_none e nd)]; exact e, upd_same⟩
theorem sameX_of {m : Addr} (x : SameXs [m] H H') : SameX m H H' := fun b o e n => x b o e (by simpa using n)
theorem g_ne {a b : Addr} (h : G a = some o) (S : Sep M H0 G0 G H O) (hb : b ∈ O) : a ≠ b := fun z => by
  have := (S.ow b hb).1
  rw [← z, h] at this
  cases this
/-- an object whose making has laid some lists -/
theorem Sep.mutnew (S : Sep M H0 G0 G H O) {L : List Addr} (x : SameXs L H H') (hL : ∀ a ∈ L, a ∈ O) (hs : ∀ a ∈ L, H' a ≠ none) (hn : H p = none) (hp : H' p ≠ none) (h0 : H0 p = none) : Sep M H0 G0 G H' (p :: O) := by
  have S1 := S.mut x hL hs
  refine ⟨S1.base, S1.pm, S1.sG, S1.g0, S1.gn, all_cons ⟨S.gfree hn, hp, .inr h0⟩ S1.ow⟩
theorem Sep.init (S : Sep M H0 G0 G H O) (x : SameX m H H') (hm : m ∈ O) (h : H' m = some o) (L : List Addr) (hL : ∀ a ∈ L, H a = none ∧ H' a ≠ none ∧ H0 a = none) : Sep M H0 G0 G H' (L ++ O) := by
  have S1 := S.mut1 x hm h
  refine ⟨S1.base, S1.pm, S1.sG, S1.g0, S1.gn, fun a ha => ?_⟩
  rcases List.mem_append.mp ha with z | z
  · obtain ⟨h1, h2, h3⟩ := hL a z
    exact ⟨S.gfree h1, h2, .inr h3⟩
  · exact S1.ow a z
end
section
variable {P : Program} {w : World} {K : PySem.W.Frag} {mg : Str → Option Value} {base : Heap}
structure MethIn (K : PySem.W.Frag) (C : Addr) (q m : Str) (st : Stmt) (ps : List Str) : Prop where
  ex : ∃ (f : Addr) (fd : FuncData), Fun K m q st f fd ∧ Meth K C m f ∧ Binds K fd ps []
structure PropIn (K : PySem.W.Frag) (C : Addr) (q m : Str) (st : Stmt) (ps : List Str) : Prop where
  ex : ∃ (r f : Addr) (fd : FuncData), Fun K m q st f fd ∧ PropOf K C m r f ∧ Binds K fd ps []
structure InitIn (K : PySem.W.Frag) (mg : Str → Option Value) (C : Addr) (cn q : Str) (st : Stmt) (ps : List Str) : Prop where
  ex : ∃ (f : Addr) (fd : FuncData), Fun K "__init__" q st f fd ∧ Mk K C f ∧ mg cn = some (.ref C) ∧ Binds K fd ps []
structure MetC (P : Program) (w : World) (K : PySem.W.Frag) (mg : Str → Option Value) (base : Heap) (k : Nat) (C : Addr) (m : Str) (sp : Sp) : Prop where
  ex : ∃ (f : Addr) (fd : FuncData) (ps : List Str), Cls K C ∧ Meth K C m f ∧ FnOk P w K mg base CX0 k f fd ps sp ∧ Binds K fd ps []
structure PropC (P : Program) (w : World) (K : PySem.W.Frag) (mg : Str → Option Value) (base : Heap) (k : Nat) (C : Addr) (m : Str) (sp : Sp) : Prop where
  ex : ∃ (q f : Addr) (fd : FuncData) (ps : List Str), Cls K C ∧ PropOf K C m q f ∧ FnOk P w K mg base CX0 k f fd ps sp ∧ Binds K fd ps []
structure MakC (P : Program) (w : World) (K : PySem.W.Frag) (mg : Str → Option Value) (base : Heap) (k : Nat) (cn : Str) (C : Addr) (sp : Sp) : Prop where
  ex : ∃ (f : Addr) (fd : FuncData) (ps : List Str), Mk K C f ∧ FnOk P w K mg base CX0 k f fd ps sp ∧ mg cn = some (.ref C) ∧ Binds K fd ps []
abbrev Body (P : Program) (w : World) (K : PySem.W.Frag) (mg : Str → Option Value) (base : Heap) (x : Str) (st : Stmt) (N : List Str) (k : Nat) (sp : Sp) : Prop :=
  ∀ (f : Addr) (cdv : Value) (A : Around) (outer : List Env) (s : Shared) (H : Hp) (vs : List V) (Q : VK) (E : XK), Room k (A.deeper (envOfC x (defScope st) s.heap.objs.size f cdv)) → sp vs H Q E →
    ∃ t, PSs (cxOf CX0 P w K mg base N x (defScope st) f cdv A outer s H E).nox (defBody st) t ∧ t { nx := fun _ H' => Q .non H', rt := Q } (start N vs) H
theorem MethIn.ok {C : Addr} {q m : Str} {st : Stmt} {N ps : List Str} {k : Nat} {sp : Sp} (D : MethIn K C q m st ps) (c : Cls K C) (S : FnScope N ps (defScope st)) (len : ∀ vs H Q E, sp vs H Q E → vs.length = ps.length)
    (hbody : Body P w K mg base q st N k sp) : MetC P w K mg base (k + 1) C m sp := by
  obtain ⟨f, fd, F, me, b⟩ := D.ex
  exact ⟨f, fd, ps, c, me, F.ok S len (fun cdv A outer s H vs Q E hr h => hbody f cdv A outer s H vs Q E hr h), b⟩
theorem PropIn.ok {C : Addr} {q m : Str} {st : Stmt} {N ps : List Str} {k : Nat} {sp : Sp} (D : PropIn K C q m st ps) (c : Cls K C) (S : FnScope N ps (defScope st)) (len : ∀ vs H Q E, sp vs H Q E → vs.length = ps.length)
    (hbody : Body P w K mg base q st N k sp) : PropC P w K mg base (k + 1) C m sp := by
  obtain ⟨r, f, fd, F, me, b⟩ := D.ex
  exact ⟨r, f, fd, ps, c, me, F.ok S len (fun cdv A outer s H vs Q E hr h => hbody f cdv A outer s H vs Q E hr h), b⟩
theorem InitIn.ok {C : Addr} {cn q : Str} {st : Stmt} {N ps : List Str} {k : Nat} {sp : Sp} (D : InitIn K mg C cn q st ps) (S : FnScope N ps (defScope st)) (len : ∀ vs H Q E, sp vs H Q E → vs.length = ps.length)
    (hbody : Body P w K mg base q st N k sp) : MakC P w K mg base (k + 1) cn C sp := by
  obtain ⟨f, fd, F, me, hm, b⟩ := D.ex
  exact ⟨f, fd, ps, me, F.ok S len (fun cdv A outer s H vs Q E hr h => hbody f cdv A outer s H vs Q E hr h), hm, b⟩
end
section
variable {X : Cx} {k j : Nat} {C : Addr} {x m : Str} {sp : Sp} {p pos apos : Pos} {e o : Expr} {es : List Expr} {ta : TE} {t : TA}
theorem vx_call0 (c : Cal X.prog X.w X.K X.mg X.base k x sp) (hr : Room j X.A) (hk : k ≤ j) (hg : Gl X x) (hdb : (x == ("__debug__" : Str)) = false := by decide) : PE X (.Call (.Name x p) [] [] pos) (tCall sp [] E0 tNil) := by
  obtain ⟨f, fd, ps, F, hm, kp, b⟩ := c.ex
  exact pe_call0 F (hr.mono hk) hg hm kp b .nil pass0 hdb
theorem vx_make (c : MakC X.prog X.w X.K X.mg X.base k x C sp) (hr : Room j X.A) (hk : k + 1 ≤ j) (hg : Gl X x) (ha : PA X (e :: es) t)
    (hdb : (x == ("__debug__" : Str)) = false := by decide) (he : starEach (e :: es) X.env = (false, eval e X.env) :: starEach es X.env := by rfl) (hpl : (backTo pos (starEach es X.env)).any (·.1) = false := by rfl) :
    PE X (.Call (.Name x p) (e :: es) [] pos) (tMake C sp [] E0 t) := by
  obtain ⟨f, fd, ps, M, F, hm, b⟩ := c.ex
  exact pe_make M F (hr.mono hk) hg hm b .nil pass0 ha hdb he hpl
theorem vx_make0 (c : MakC X.prog X.w X.K X.mg X.base k x C sp) (hr : Room j X.A) (hk : k + 1 ≤ j) (hg : Gl X x) (hdb : (x == ("__debug__" : Str)) = false := by decide) :
    PE X (.Call (.Name x p) [] [] pos) (tMake C sp [] E0 tNil) := by
  obtain ⟨f, fd, ps, M, F, hm, b⟩ := c.ex
  exact pe_make0 M F (hr.mono hk) hg hm b .nil pass0 hdb
theorem vx_meth {pl : Sem Bool} (c : MetC X.prog X.w X.K X.mg X.base k C m sp) (hr : Room j X.A) (hk : k ≤ j) (he : PE X o ta) (ha : PA X (e :: es) t)
    (hst : starEach (e :: es) X.env = (false, eval e X.env) :: starEach es X.env := by rfl) (hpl : (backTo pos (starEach es X.env)).any (·.1) = false := by rfl)
    (ht : eval (.Call (.Attribute o m apos) (e :: es) [] pos) X.env = (do
      let ov ← eval o X.env
      standAt apos.atName
      let (f, first) ← holding [ov] (getMethod ov m pl)
      callWith pos f first (backTo pos (starEach (e :: es) X.env)) (backToKw pos (keywordEach [] X.env))) := by rfl) :
    PE X (.Call (.Attribute o m apos) (e :: es) [] pos) (tMeth C m sp [] E0 ta t) := by
  obtain ⟨f, fd, ps, hc, hm, F, b⟩ := c.ex
  exact pe_meth he hc hm F (hr.mono hk) b .nil pass0 ha hst hpl ht
theorem vx_meth0 {pl : Sem Bool} (c : MetC X.prog X.w X.K X.mg X.base k C m sp) (hr : Room j X.A) (hk : k ≤ j) (he : PE X o ta)
    (ht : eval (.Call (.Attribute o m apos) [] [] pos) X.env = (do
      let ov ← eval o X.env
      standAt apos.atName
      let (f, first) ← holding [ov] (getMethod ov m pl)
      callWith pos f first (backTo pos (starEach [] X.env)) (backToKw pos (keywordEach [] X.env))) := by rfl) :
    PE X (.Call (.Attribute o m apos) [] [] pos) (tMeth C m sp [] E0 ta tNil) := by
  obtain ⟨f, fd, ps, hc, hm, F, b⟩ := c.ex
  exact pe_meth0 he hc hm F (hr.mono hk) b .nil pass0 ht
theorem vx_prop (c : PropC X.prog X.w X.K X.mg X.base k C m sp) (hr : Room j X.A) (hk : k + 1 ≤ j) (he : PE X o ta) (hab : attributeBase o m X.env (eval o X.env) = eval o X.env) : PE X (.Attribute o m pos) (tProp C sp [] E0 ta) := by
  obtain ⟨q, f, fd, ps, hc, hp, F, b⟩ := c.ex
  exact pe_prop he hc hp F (hr.mono hk) b .nil pass0 hab
end
theorem iteBNT {b : Bool} {A B : Prop} (h : b = false) (k : A) : if (!b) = true then A else B := by rw [h]; exact iteT k
theorem iteNN {b : Bool} {A B : Prop} (h : if b = true then A else B) : if (!!b) = true then A else B := by rw [Bool.not_not]; exact h
theorem iteBNF {b : Bool} {A B : Prop} (h : b = true) (k : B) : if (!b) = true then A else B := by rw [h]; exact iteF k
theorem shl_side {i j : Int} (h0 : 0 ≤ j) (h1 : j ≤ 4096) (h2 : -(2 ^ 4096) < i) (h3 : i < 2 ^ 4096) : CShl i j := by
  obtain ⟨k, rfl⟩ := Int.eq_ofNat_of_zero_le h0
  exact shl_ok (n := 4096) (by omega) (by omega)
end Vx

namespace Vx
open PySem PySem.Spec PyProof.Rows L2
section
variable {X : Cx} {K : PySem.W.Frag}
theorem fldK {e : Expr} {f : Str} {pos : Pos} {ta : TE} (he : PE X e ta) (hb : attributeBase e f X.env (eval e X.env) = eval e X.env := by rfl) (hK : X.K = K := by rfl) : PE X (.Attribute e f pos) (tFld K ta f) := hK ▸ pe_fld he hb
theorem pg_tupK {es : List Expr} {k : Nat} {t : TGs} {n : Nat} {pos : Pos} (h : PGs X es t) (hc : X.calm = true := by rfl)
    (hn : (assignEach es X.env).length = n := by rfl) (hst : (assignEach es X.env).findIdx? (·.1) = none := by rfl) (hK : X.K = K := by rfl) : PG X (.Tuple es k pos) (gTup K n t) := hK ▸ pg_tup hc h hn hst
end
end Vx

namespace Vx
open PySem PySem.Spec PyProof.Rows L2
section
variable {α β : Type} {f : α → PyData} {g : β → PyData} {fv : α → V} {gv : β → V} {G : Hp} {vs ws : List V} {xs : List α} {ys : List β}
theorem big1 {n : Nat} (h : n ≤ 1000000) : n ≤ sizeLine := smallE h
theorem cat_len (a : RpAll G vs (xs.map f)) (b : RpAll G ws (ys.map g)) (h : xs.length + ys.length ≤ 1000000) : vs.length + ws.length ≤ sizeLine := by
  rw [a.len, b.len, List.length_map, List.length_map]; exact smallE h
theorem cat_lenM (h : xs.length + ys.length ≤ 1000000) : (xs.map fv).length + (ys.map gv).length ≤ sizeLine := by
  rw [List.length_map, List.length_map]; exact smallE h
theorem rep_len {k : Nat} (a : RpAll G vs (xs.map f)) (h : xs.length * k ≤ 1000000) : vs.length * k ≤ sizeLine := by
  rw [a.len, List.length_map]; exact smallE h
theorem rep_lenM {k : Nat} (h : xs.length * k ≤ 1000000) : (xs.map fv).length * k ≤ sizeLine := by
  rw [List.length_map]; exact smallE h
theorem app_len (a : RpAll G vs (xs.map f)) (h : xs.length ≤ 1000000) : vs.length < sizeLine := by
  rw [a.len, List.length_map]; exact small h
theorem app_lenM (h : xs.length ≤ 1000000) : (xs.map fv).length < sizeLine := by
  rw [List.length_map]; exact small h
theorem cutL_len {α : Type} (xs : List α) (lo hi : Option Int) : (cutL xs lo hi).length ≤ xs.length := by
  unfold cutL
  rw [List.length_take, List.length_drop]
  omega
theorem repL_len {α : Type} (xs : List α) (k : Int) : (repL xs k).length = k.toNat * xs.length := by
  unfold repL
  simp
end
end Vx
/-! # promises of defs that know that nothing is being shown (so that repr may be called) -/
namespace Vx
open PySem PySem.Spec PyProof.Rows L2
structure RoomG (k : Nat) (A : Around) : Prop extends Room k A where
  gd : A.guards = some []
theorem RoomG.low {j k : Nat} {A : Around} (r : RoomG k A) (h : j ≤ k) : RoomG j A := ⟨r.toRoom.mono h, r.gd⟩
theorem RoomG.one {k : Nat} {A : Around} (r : RoomG (k + 1) A) : RoomG k A.in1 := ⟨r.toRoom.in1, r.gd⟩
theorem make_gd {A : Around} (C : Addr) (us : List Value) (kw : List (Str × Value)) (h : A.guards = some []) : (A.under (.builtin "type.__call__" ⟨.ref C :: us, kw⟩)).guards = some [] := by
  obtain ⟨hd, d, fr, gs, u⟩ := A
  subst h
  simp [Around.under, Code.guards, Code.isGuard, guardIds, pushGuards]
theorem RoomG.made {k : Nat} {A : Around} (r : RoomG (k + 1) A) (C : Addr) (us : List Value) (kw : List (Str × Value)) : RoomG k (A.under (.builtin "type.__call__" ⟨.ref C :: us, kw⟩)) := ⟨r.toRoom.make C us kw, make_gd C us kw r.gd⟩
structure FnG (P : Program) (w : World) (K : PySem.W.Frag) (mg : Str → Option Value) (base : Heap) (cx : CXT) (k : Nat) (f : Addr) (fd : FuncData) (ps : List Str) (sp : Sp) : Prop where
  len : ∀ vs H Q E, sp vs H Q E → vs.length = ps.length
  run : ∀ (A : Around) (outer : List Env) (s : Shared) (H : Hp) (args : Args) (us : List Value) (vs : List V) (Q : VK) (E : XK), RoomG k A → Env0 P w K mg base A outer s H → BindsTo s fd args (ps.zip us) → Vals vs us → sp vs H Q E → codeAny (model P w) A (.call (.ref f) args) (CR cx outer P w H s Q E) s
section
variable {P : Program} {w : World} {K : PySem.W.Frag} {mg : Str → Option Value} {base : Heap} {cx : CXT} {j k : Nat} {f : Addr} {fd : FuncData} {ps : List Str} {sp sp' : Sp}
theorem FnG.imp (F : FnG P w K mg base cx k f fd ps sp) (h : ∀ vs H Q E, sp' vs H Q E → sp vs H Q E) : FnG P w K mg base cx k f fd ps sp' := ⟨fun vs H Q E q => F.len vs H Q E (h vs H Q E q), fun A o s H a us vs Q E r e b v q => F.run A o s H a us vs Q E r e b v (h vs H Q E q)⟩
/-- the body's promise is the def's -/
theorem FnG.body {x qual : Str} {params : Arguments} {body : List Stmt} {scope : Scope} {dvs : List V} {kws : List (Str × V)} {N : List Str} (F : FunD K x qual params body scope dvs kws f fd) (S : FnScope N ps scope) (len : ∀ vs H Q E, sp vs H Q E → vs.length = ps.length)
    (hb : ∀ (cdv : Value) (A : Around) (outer : List Env) (s : Shared) (H : Hp) (vs : List V) (Q : VK) (E : XK), RoomG k (A.deeper (envOfC qual scope s.heap.objs.size f cdv)) → sp vs H Q E →
      ∃ t, PSs (cxOf cx P w K mg base N qual scope f cdv A outer s H E) body t ∧ t { nx := fun _ H' => Q .non H', rt := Q } (start N vs) H) : FnG P w K mg base cx (k + 1) f fd ps sp := by
  obtain ⟨oc, od, dV, kV, doc, pm, an, cdv, ct, osl, rfl, lk, code, _, _⟩ := F.ex
  constructor
  · exact len
  · intro A outer s H args us vs Q E room env binds vals prom
    have nvs := len vs H Q E prom
    have kin : K.In s.heap := env.mod.kin.keeps fun b o q => (env.bs b o q).1
    have nolim : s.heap.NoLimit := env.mod.nolimit.keeps fun b o q => (env.bs b o q).1
    have kinds : ∀ q ∈ ps.zip us, scope.names.lookup q.1 = some .local ∨ (scope.names.lookup q.1 = some .cell ∧ ((cellsFrom (s.heap.objs.size + 1) scope.names []).lookup q.1).isSome = true) := by
      rintro ⟨n, v⟩ hq
      cases S.par n (List.of_mem_zip hq).1 with
      | inl z => exact .inl z
      | inr z => exact .inr ⟨z, PySem.W.cellsFrom_some _ _ _ (.inl z)⟩
    refine codeAny_call_function room.toRoom.depth (kin _ _ lk) rfl S.co S.gen rfl (PySem.W.codeRec_of kin code) (binds _ _ _ _ ?_)
    refine wpAny_newFunctionEnv_cells S.kind kinds ?_
    rintro _ rfl s1 made
    refine ⟨nolim.keeps made.toInCall.keep, codeAny_func ?_⟩
    obtain ⟨t, pss, start_⟩ := hb cdv A outer s H vs Q E ⟨room.toRoom.deeper _, room.gd⟩ prom
    have inv := inv_start (CX := cx) (E := E) S room.hd env nvs vals made
    have close : ∀ {τ : L2.St} {H2 : Hp} {v : V} {u : Value} {s2 : Shared}, Inv (cxOf cx P w K mg base N qual scope f cdv A outer s H E) [] τ H2 s2 → RelV v u → Q v H2 → CE outer P w H s Q u s2 := fun inv2 rel q => ⟨_, _, inv2.os, inv2.bare, inv2.base, inv2.hok, rel, q⟩
    refine wpAny_mono (pss.run [] s1 (start N vs) H _ inv start_) ?_ fun _ _ z => z
    intro flow s2 out
    cases flow with
    | next =>
      obtain ⟨τ, H2, inv2, q⟩ := out
      exact close (v := .non) (u := .none) inv2 rfl q
    | ret u =>
      obtain ⟨v, τ, H2, inv2, rel, q⟩ := out
      exact close inv2 rel q
    | brk =>
      obtain ⟨_, _, _, q⟩ := out
      exact q.elim
    | cont =>
      obtain ⟨_, _, _, q⟩ := out
      exact q.elim
/-- the same of a body that nothing leaves -/
theorem FnG.bodyN {x qual : Str} {params : Arguments} {body : List Stmt} {scope : Scope} {dvs : List V} {kws : List (Str × V)} {N : List Str} (F : FunD K x qual params body scope dvs kws f fd) (S : FnScope N ps scope) (len : ∀ vs H Q E, sp vs H Q E → vs.length = ps.length)
    (hb : ∀ (cdv : Value) (A : Around) (outer : List Env) (s : Shared) (H : Hp) (vs : List V) (Q : VK) (E : XK), RoomG k (A.deeper (envOfC qual scope s.heap.objs.size f cdv)) → sp vs H Q E →
      ∃ t, PSs (cxOf CX0 P w K mg base N qual scope f cdv A outer s H E).nox body t ∧ t { nx := fun _ H' => Q .non H', rt := Q } (start N vs) H) : FnG P w K mg base CX0 (k + 1) f fd ps sp :=
  FnG.body F S len fun cdv A outer s H vs Q E r p => by
    obtain ⟨t, h, q⟩ := hb cdv A outer s H vs Q E r p
    exact ⟨t, h.nox, q⟩
end
/-- where a law's call begins: an abstract heap that tells the script at most -/
theorem law_start {P : Program} {w : World} {K : PySem.W.Frag} {mg mb : Str → Option Value} {a : Addr} {s : Shared} {vs : List Value} {ns : List Int} (kin : K.In s.heap) (top : s.heap.Ns mainGlobals mg) (blt : s.heap.Ns builtinsNs mb) (boot : ∀ y : Str, y ≠ "__name__" → mb y = bootBuiltins y)
    (lim : s.heap.NoLimit) (gens : s.gens = #[]) (script : s.heap.get? a = some { cls := .type "list", data := .seq vs.toArray }) (whole : IntsAre vs ns) (short : ns.length ≤ sizeLine) :
    ∃ (H : Hp) (base : Heap), SqL K H a (ns.map V.int) ∧ K.In base ∧ base.Ns mainGlobals mg ∧ Env0 P w K mg base callerA [] s H ∧
      ∀ (Z : V → Prop) (u : Value) (s2 : Shared), CE [] P w H s (fun v _ => Z v) u s2 → (∃ v, RelV v u ∧ Z v) ∧ OldK s.heap s2.heap ∧ s2.os = s.os ∧ AllBare s2.gens := by
  have rel := vals_ints whole
  have lenV := whole.length
  -- any H that tells no more than the script, and that only where the written part does not hold it, will do
  have fits : ∀ H : Hp, (∀ b, H b = none ∨ ∃ o xs, H b = some (.frz o (.lst xs))) → SqL K H a (ns.map V.int) → HOk P w H s.heap → (∀ b, b ≠ a → H b = none) → (∀ o, K.lookup a = some o → H a = none) →
      ∃ (H : Hp) (base : Heap), SqL K H a (ns.map V.int) ∧ K.In base ∧ base.Ns mainGlobals mg ∧ Env0 P w K mg base callerA [] s H ∧
        ∀ (Z : V → Prop) (u : Value) (s2 : Shared), CE [] P w H s (fun v _ => Z v) u s2 → (∃ v, RelV v u ∧ Z v) ∧ OldK s.heap s2.heap ∧ s2.os = s.os ∧ AllBare s2.gens := by
    intro H only seq ok else_ apart
    have dictFree : ∀ (b : Addr) (o : Obj) (es : Array DictEntry) (n : Nat), s.heap.get? b = some o → o.data = .dict es n → H b = none := by
      intro b o es n e d
      by_cases z : b = a
      · subst z
        rw [script] at e
        injection e with e
        subst e
        cases d
      · exact else_ b z
    have nsOf : ∀ {b : Addr} {m : Str → Option Value}, s.heap.Ns b m → (hidT s.heap H).Ns b m := by
      rintro b m ⟨o, es, n, e, d, r⟩
      exact ⟨o, es, n, hidT_get e (dictFree b o es n e d), d, r⟩
    have kinB : K.In (hidT s.heap H) := by
      intro b o e
      refine hidT_get (kin b o e) ?_
      by_cases z : b = a
      · subst z
        exact apart o e
      · exact else_ b z
    obtain ⟨mc, lim1, lim2⟩ := lim
    refine ⟨H, hidT s.heap H, seq, kinB, nsOf top, ⟨rfl, ⟨kinB, nsOf top, ⟨mb, nsOf blt, boot⟩, mc, nsOf lim1, lim2⟩, fun b o e => of_hidT e, Nat.le_of_eq (hidT_size _ _), trivial, fun b hb => (nomatch (show b ∈ ([] : List Addr) from hb)), ok, .of_eq gens⟩, ?_⟩
    rintro Z u s2 ⟨v, H2, os, bare, un, ok2, r, z⟩
    refine ⟨⟨v, r, z⟩, OldK.of_keep fun b o e => ?_, os, bare⟩
    rcases only b with n | ⟨o1, xs, n⟩
    · exact un.keep b o e n (fun y => nomatch (show b ∈ ([] : List Addr) from y)) (fun y => nomatch y)
    · obtain ⟨e1, _⟩ := ok b _ n
      obtain ⟨e2, _⟩ := ok2 b _ (un.frzs b o1 _ n)
      rw [e] at e1
      injection e1 with e1
      subst e1
      exact e2
  cases kl : K.lookup a with
  | some o =>
    have e := kin a o kl
    rw [script] at e
    injection e with e
    subst e
    exact fits (fun _ => none) (fun _ => .inl rfl) (.inr ⟨_, vs.toArray, _, kl, rfl, rfl, rfl, by rw [List.size_toArray, lenV]; exact short, by simpa using rel⟩) (fun _ _ z => nomatch z) (fun _ _ => rfl) fun _ _ => rfl
  | none =>
    refine fits (fun b => if b = a then some (.frz { cls := .type "list", data := .seq vs.toArray } (.lst (ns.map V.int))) else none) ?_ (.inl (.inr ⟨_, if_pos rfl⟩)) ?_ (fun b n => if_neg n) fun o z => ?_
    · intro b
      by_cases z : b = a
      · exact .inr ⟨_, _, if_pos z⟩
      · exact .inl (if_neg z)
    · intro b u q
      by_cases z : b = a
      · subst z
        have q := (if_pos rfl).symm.trans q
        injection q with q
        subst q
        exact ⟨script, by rw [List.length_map]; exact short, vs, _, rel, script⟩
      · have q := (if_neg z).symm.trans q
        cases q
    · rw [kl] at z
      cases z
/-- the goal that the head leaves, from the law's promise; the script's numbers have at most 2 ^ 20 bits -/
theorem walkG {l : PySem.W.OpenLaw} {n k : Nat} {q : Program} {loose : List Str} {XP : (Str → Option Value) → Heap → Prop} {YP : World → Heap → Prop} {d : DefRec} {K : Params → PySem.W.Frag} {x : Str} (hn : l.most = some n) (hn2 : n ≤ sizeLine) (hdf : d.params.defaults = []) (room : Room k callerA)
    (hY : ∀ (w : World) (h : Heap), YP w h → (K w.params).In h)
    (F : ∀ (w : World) (mg : Str → Option Value) (fa : Addr) (h : Heap), (K w.params).In h → h.Ns mainGlobals mg → mg d.name = some (.ref fa) →
      ∃ fd : FuncData, (∀ (s : Shared) (u : Value), BindsTo s fd ⟨[u], []⟩ [(x, u)]) ∧ ∀ base : Heap, (K w.params).In base → base.Ns mainGlobals mg → FnG l.prog w (K w.params) mg base CX0 k fa fd [x] (fun vs H Q _ => ∃ (a : Addr) (ns : List Int), vs = [.ref a] ∧ SqL (K w.params) H a (ns.map V.int) ∧ ns.length ≤ n ∧ ∀ H', Q (.bl true) H')) :
    PySem.W.WalkO q loose XP YP l.row.toRowW d [] (fun f vs => PySem.call f vs) := by
  refine Att.attach_call hn hdf ?_
  intro w s₀ s₁ mg mb fa o pm cd doc a vs ns G Y _ _ _ hmg script whole short gens
  have kin := hY w _ Y
  obtain ⟨fd, bind, prom⟩ := F w mg fa _ kin G.T.g hmg
  obtain ⟨H, base, seq, kinB, nsB, env, fin⟩ := law_start (P := l.prog) (w := w) kin G.T.g G.T.b G.T.builtins G.T.nolimit gens script whole (Nat.le_trans short hn2)
  refine codeAny_mono ((prom base kinB nsB).run callerA [] s₁ H ⟨[.ref a], []⟩ [.ref a] [.ref a] (fun v _ => v = .bl true) (fun _ _ _ => False) ⟨room, rfl⟩ env (bind s₁ (.ref a)) (.cons rfl .nil) ⟨a, ns, rfl, seq, short, fun _ => rfl⟩) ?_
  intro r s2 out
  cases r with
  | error e => exact out.elim
  | ok flow =>
    cases flow with
    | ret u =>
      obtain ⟨⟨v, rv, z⟩, h1, h2, h3⟩ := fin (fun v => v = .bl true) u s2 out
      subst z
      obtain rfl : u = Value.bool true := rv
      exact ⟨rfl, h1, h2, h3⟩
    | next => exact out.elim
    | brk => exact out.elim
    | cont => exact out.elim
end Vx
/-! # third part: what a def computes, as a plain function with refusals -/
namespace Vx
open PySem PySem.Spec PyProof.Rows L2
inductive Rx (α : Type) where
  | ok (a : α)
  | er (e : Nat)
  | bad
def Rx.bind {α β : Type} (m : Rx α) (f : α → Rx β) : Rx β :=
  match m with
  | .ok a => f a
  | .er e => .er e
  | .bad => .bad
/-- what is wanted of an outcome -/
@[irreducible] def cW {α : Type} (m : Rx α) (K : α → Prop) (E : Nat → Prop) : Prop :=
  match m with
  | .ok a => K a
  | .er e => E e
  | .bad => False
def grd {α : Type} (p : Prop) [Decidable p] (m : Rx α) : Rx α := if p then m else .bad
/-- within a comprehension nothing may be raised -/
def noEr {α : Type} (m : Rx α) : Rx α :=
  match m with
  | .ok a => .ok a
  | _ => .bad
/-- what the clause does not name may not come -/
def tryR {α β : Type} (m : Rx α) (cs : List Nat) (f : α → Rx β) (h : Nat → Rx β) : Rx β :=
  match m with
  | .ok a => f a
  | .er e => if e ∈ cs then h e else .bad
  | .bad => .bad
def bnd {α β : Type} (a : α) (f : α → Rx β) : Rx β := f a
inductive Lp (σ ρ : Type) where
  | go (s : σ)
  | bk (s : σ)
  | rt (r : ρ)
def Lp.aft {σ ρ τ : Type} (l : Lp σ ρ) (kr : ρ → Rx τ) (k : σ → Rx τ) : Rx τ :=
  match l with
  | .go s => k s
  | .bk s => k s
  | .rt r => kr r
def forS {σ α : Type} : List α → σ → (σ → α → Rx σ) → Rx σ
  | [], s, _ => .ok s
  | x :: r, s, f => (f s x).bind fun s' => forS r s' f
def forR {σ α ρ : Type} : List α → σ → (σ → α → Rx (Lp σ ρ)) → Rx (Lp σ ρ)
  | [], s, _ => .ok (.go s)
  | x :: r, s, f => (f s x).bind fun l =>
    match l with
    | .go s' => forR r s' f
    | .bk s' => .ok (.go s')
    | .rt v => .ok (.rt v)
def whileR {σ ρ : Type} : Nat → σ → (σ → Rx (Lp σ ρ)) → Rx (Lp σ ρ)
  | 0, _, _ => .bad
  | n + 1, s, f => (f s).bind fun l =>
    match l with
    | .go s' => whileR n s' f
    | .bk s' => .ok (.go s')
    | .rt v => .ok (.rt v)
def mapA {α β : Type} : List α → List β → (α → Rx β) → Rx (List β)
  | [], acc, _ => .ok acc
  | x :: r, acc, f => grd (acc.length ≤ 1000000) ((f x).bind fun y => mapA r (acc ++ [y]) f)
def mapF {α β : Type} : List α → List β → (α → Rx (Option β)) → Rx (List β)
  | [], acc, _ => .ok acc
  | x :: r, acc, f => grd (acc.length ≤ 1000000) ((f x).bind fun y =>
    match y with
    | some z => mapF r (acc ++ [z]) f
    | none => mapF r acc f)
section
variable {α β γ σ ρ τ : Type} {K : α → Prop} {E : Nat → Prop}
theorem cW_ok {a : α} (h : cW (.ok a) K E) : K a := by
  unfold cW at h
  exact h
theorem cW_er {e : Nat} (h : cW (.er e : Rx α) K E) : E e := by
  unfold cW at h
  exact h
theorem cW_bad {C : Prop} (h : cW (.bad : Rx α) K E) : C := by
  unfold cW at h
  exact h.elim
theorem cW_mk {a : α} (h : K a) : cW (.ok a) K E := by
  unfold cW
  exact h
theorem cW_mkE {e : Nat} (h : E e) : cW (.er e : Rx α) K E := by
  unfold cW
  exact h
theorem cW_gen {m : Rx α} (h : cW m K E) : ∃ (K' : α → Prop) (E' : Nat → Prop), (∀ v, K' v → K v) ∧ (∀ e, E' e → E e) ∧ cW m K' E' := ⟨K, E, fun _ x => x, fun _ x => x, h⟩
theorem cW_grd {p : Prop} {dp : Decidable p} {m : Rx α} (h : cW (grd p m) K E) : p ∧ cW m K E := by
  unfold grd at h
  split at h
  · exact ⟨‹p›, h⟩
  · exact cW_bad h
theorem cW_pos {p : Prop} {dp : Decidable p} {a b : Rx α} (c : p) (h : cW (if p then a else b) K E) : cW a K E := by rwa [if_pos c] at h
theorem cW_neg {p : Prop} {dp : Decidable p} {a b : Rx α} (c : ¬ p) (h : cW (if p then a else b) K E) : cW b K E := by rwa [if_neg c] at h
theorem cW_call {m : Rx β} {f : β → Rx α} {K2 : β → Prop} {E2 : Nat → Prop} (h : cW (m.bind f) K E) (ho : ∀ v, cW (f v) K E → K2 v) (he : ∀ e, E e → E2 e) : cW m K2 E2 := by
  cases m with
  | ok a => exact cW_mk (ho a h)
  | er e => exact cW_mkE (he e (cW_er (α := α) h))
  | bad => exact cW_bad (α := α) h
theorem cW_push {m : Rx β} {f : β → Rx α} (h : cW (m.bind f) K E) : ∃ K2 : β → Prop, (∀ v, K2 v → cW (f v) K E) ∧ cW m K2 E := ⟨fun v => cW (f v) K E, fun _ x => x, cW_call h (fun _ x => x) fun _ x => x⟩
theorem cW_name {m : Rx α} (h : cW m K E) : ∃ K' : α → Prop, (∀ v, K' v → K v) ∧ cW m K' E := ⟨K, fun _ x => x, h⟩
theorem cW_noEr {m : Rx α} (h : cW (noEr m) K E) : cW m K (fun _ => False) := by
  cases m with
  | ok a => exact cW_mk (cW_ok (α := α) h)
  | er e => exact cW_bad (α := α) h
  | bad => exact cW_bad (α := α) h
theorem cW_try {m : Rx β} {cs : List Nat} {f : β → Rx α} {g : Nat → Rx α} {K2 : β → Prop} {E2 : Nat → Prop} (h : cW (tryR m cs f g) K E) (ho : ∀ v, cW (f v) K E → K2 v) (hc : ∀ e, e ∈ cs → cW (g e) K E → E2 e) : cW m K2 E2 := by
  cases m with
  | ok a => exact cW_mk (ho a h)
  | er e =>
    have h2 : cW (if e ∈ cs then g e else .bad) K E := h
    by_cases q : e ∈ cs
    · exact cW_mkE (hc e q (cW_pos q h2))
    · exact cW_bad (cW_neg q h2)
  | bad => exact cW_bad (α := α) h
theorem cW_bnd {a : β} {f : β → Rx α} (h : cW (bnd a f) K E) : cW (f a) K E := h
theorem cW_negB {b : Bool} {x y : Rx α} (c : b = false) (h : cW (if b = true then x else y) K E) : cW y K E := cW_neg (by rw [c]; decide) h
theorem cW_forS {xs : List β} {i : Nat} {x : β} {s : α} {f : α → β → Rx α} (hx : xs[i]? = some x) (h : cW (forS (xs.drop i) s f) K E) : cW (f s x) (fun s' => cW (forS (xs.drop (i + 1)) s' f) K E) E := by
  rw [List.drop_eq_getElem?_toList_append, hx] at h
  exact cW_call h (fun _ z => z) fun _ z => z
theorem cW_forS0 {xs : List β} {n : Nat} {s : α} {f : α → β → Rx α} (hn : n = xs.length) (h : cW (forS (xs.drop n) s f) K E) : K s := by
  subst hn
  rw [List.drop_length] at h
  exact cW_ok h
theorem cW_forR {K : Lp σ ρ → Prop} {xs : List β} {i : Nat} {x : β} {s : σ} {f : σ → β → Rx (Lp σ ρ)} (hx : xs[i]? = some x) (h : cW (forR (xs.drop i) s f) K E) :
    cW (f s x) (fun l => match l with | .go s' => cW (forR (xs.drop (i + 1)) s' f) K E | .bk s' => K (.go s') | .rt v => K (.rt v)) E := by
  rw [List.drop_eq_getElem?_toList_append, hx] at h
  refine cW_call h (fun l z => ?_) fun _ z => z
  cases l with
  | go s' => exact z
  | bk s' => exact cW_ok (K := K) (a := .go s') z
  | rt v => exact cW_ok (K := K) (a := .rt v) z
theorem cW_forR0 {K : Lp σ ρ → Prop} {xs : List β} {n : Nat} {s : σ} {f : σ → β → Rx (Lp σ ρ)} (hn : n = xs.length) (h : cW (forR (xs.drop n) s f) K E) : K (.go s) := by
  subst hn
  rw [List.drop_length] at h
  exact cW_ok h
theorem cW_whileR {K : Lp σ ρ → Prop} {m : Nat} {s : σ} {f : σ → Rx (Lp σ ρ)} (h : cW (whileR m s f) K E) :
    ∃ n, m = n + 1 ∧ cW (f s) (fun l => match l with | .go s' => cW (whileR n s' f) K E | .bk s' => K (.go s') | .rt v => K (.rt v)) E := by
  cases m with
  | zero => exact cW_bad h
  | succ n =>
    refine ⟨n, rfl, cW_call h (fun l z => ?_) fun _ z => z⟩
    cases l with
    | go s' => exact z
    | bk s' => exact cW_ok (K := K) (a := .go s') z
    | rt v => exact cW_ok (K := K) (a := .rt v) z
theorem cW_mapA {K : List α → Prop} {xs : List β} {acc : List α} {i : Nat} {x : β} {f : β → Rx α} (hx : xs[i]? = some x) (h : cW (mapA (xs.drop i) acc f) K E) :
    acc.length ≤ 1000000 ∧ cW (f x) (fun y => cW (mapA (xs.drop (i + 1)) (acc ++ [y]) f) K E) E := by
  rw [List.drop_eq_getElem?_toList_append, hx] at h
  obtain ⟨z, h⟩ := cW_grd h
  exact ⟨z, cW_call h (fun _ z => z) fun _ z => z⟩
theorem cW_mapA0 {K : List α → Prop} {xs : List β} {acc : List α} {n : Nat} {f : β → Rx α} (hn : n = xs.length) (h : cW (mapA (xs.drop n) acc f) K E) : K acc := by
  subst hn
  rw [List.drop_length] at h
  exact cW_ok h
theorem cW_mapF {K : List α → Prop} {xs : List β} {acc : List α} {i : Nat} {x : β} {f : β → Rx (Option α)} (hx : xs[i]? = some x) (h : cW (mapF (xs.drop i) acc f) K E) :
    acc.length ≤ 1000000 ∧ cW (f x) (fun y => match y with | some z => cW (mapF (xs.drop (i + 1)) (acc ++ [z]) f) K E | none => cW (mapF (xs.drop (i + 1)) acc f) K E) E := by
  rw [List.drop_eq_getElem?_toList_append, hx] at h
  obtain ⟨z, h⟩ := cW_grd h
  refine ⟨z, cW_call h (fun y z => ?_) fun _ z => z⟩
  cases y with
  | none => exact z
  | some w => exact z
theorem cW_mapF0 {K : List α → Prop} {xs : List β} {acc : List α} {n : Nat} {f : β → Rx (Option α)} (hn : n = xs.length) (h : cW (mapF (xs.drop n) acc f) K E) : K acc := by
  subst hn
  rw [List.drop_length] at h
  exact cW_ok h
end
/-- the numbers of a range -/
def rng (lo : Int) (n : Nat) : List Int := (List.range n).map fun (j : Nat) => lo + (j : Int)
theorem rng_get {lo : Int} {n i : Nat} (h : i < n) : (rng lo n)[i]? = some (lo + (i : Int)) := by
  unfold rng
  rw [List.getElem?_map, List.getElem?_range h] <;> rfl
theorem rng_len (lo : Int) (n : Nat) : (rng lo n).length = n := by
  unfold rng
  rw [List.length_map, List.length_range]

def rngD (lo : Int) (n : Nat) : List Int := (List.range n).map fun (j : Nat) => lo + (j : Int) * (-1)
theorem rngD_get {lo : Int} {n i : Nat} (h : i < n) : (rngD lo n)[i]? = some (lo + (i : Int) * (-1)) := by
  unfold rngD
  rw [List.getElem?_map, List.getElem?_range h] <;> rfl
theorem rngD_len (lo : Int) (n : Nat) : (rngD lo n).length = n := by
  unfold rngD
  rw [List.length_map, List.length_range]

/-! ### calls that may raise -/
/-- what a call with n values and keywords ks gives the parameters -/
structure Bnd (K : PySem.W.Frag) (fd : FuncData) (ps : List Str) (n : Nat) (ks : List Str) (g : List V → List V → List V) : Prop where
  to : ∀ (s : Shared) (us ws : List Value) (vs zs : List V), K.In s.heap → vs.length = n → zs.length = ks.length → Vals vs us → Vals zs ws → ∃ vv : List Value, BindsTo s fd ⟨us, ks.zip ws⟩ (ps.zip vv) ∧ Vals (g vs zs) vv
theorem Bnd.of_kbn {K : PySem.W.Frag} {fd : FuncData} {ps ks : List Str} {n : Nat} {g : List Value → List Value → List Value} {gV : List V → List V → List V} (b : KBn K fd ps n ks g gV) : Bnd K fd ps n ks gV :=
  ⟨fun s us ws vs zs X l1 l2 r rz => ⟨g us ws, b.to s us ws X (r.length.symm.trans l1) (rz.length.symm.trans l2), b.rel r rz⟩⟩
theorem Bnd.all {K : PySem.W.Frag} {fd : FuncData} {ps ks : List Str} {n : Nat} {g : List V → List V → List V} (h : ∀ (us ws : List Value) (vs zs : List V), vs.length = n → zs.length = ks.length → Vals vs us → Vals zs ws →
    ∃ vv : List Value, bindArgs fd ⟨us, ks.zip ws⟩ = pure (ps.zip vv) ∧ Vals (g vs zs) vv) : Bnd K fd ps n ks g :=
  ⟨fun s us ws vs zs _ l1 l2 r rz => by
    obtain ⟨vv, e, q⟩ := h us ws vs zs l1 l2 r rz
    exact ⟨vv, BindsTo.of_eq e, q⟩⟩
abbrev Pat := Nat × List Str × (List V → List V → List V)
def Bnd1 (K : PySem.W.Frag) (fd : FuncData) (ps : List Str) (p : Pat) : Prop := Bnd K fd ps p.1 p.2.1 p.2.2
section
variable {P : Program} {w : World} {K : PySem.W.Frag} {mg : Str → Option Value} {base : Heap}
/-- a def of the top, with the ways it is called -/
structure DefX (K : PySem.W.Frag) (mg : Str → Option Value) (x : Str) (st : Stmt) (ps : List Str) (pats : List Pat) : Prop where
  ex : ∃ (f : Addr) (fd : FuncData) (dvs : List V) (kws : List (Str × V)), FunD K x x (defArgs st) (defBody st) (defScope st) dvs kws f fd ∧ mg x = some (.ref f) ∧ ∀ p ∈ pats, Bnd1 K fd ps p
structure CalX (P : Program) (w : World) (K : PySem.W.Frag) (mg : Str → Option Value) (base : Heap) (k : Nat) (x : Str) (sp : Sp) (pats : List Pat) : Prop where
  ex : ∃ (f : Addr) (fd : FuncData) (ps : List Str), FnG P w K mg base (L2.CX P w) k f fd ps sp ∧ mg x = some (.ref f) ∧ PySem.W.keepIn K (.ref f) = true ∧ ∀ p ∈ pats, Bnd1 K fd ps p
abbrev BodyX (P : Program) (w : World) (K : PySem.W.Frag) (mg : Str → Option Value) (base : Heap) (x : Str) (st : Stmt) (N : List Str) (k : Nat) (sp : Sp) : Prop :=
  ∀ (f : Addr) (cdv : Value) (A : Around) (outer : List Env) (s : Shared) (H : Hp) (vs : List V) (Q : VK) (E : XK), RoomG k (A.deeper (envOfC x (defScope st) s.heap.objs.size f cdv)) → sp vs H Q E →
    ∃ t, PSs (cxOf (L2.CX P w) P w K mg base N x (defScope st) f cdv A outer s H E) (defBody st) t ∧ t { nx := fun _ H' => Q .non H', rt := Q } (start N vs) H
theorem DefX.ok {x : Str} {st : Stmt} {N ps : List Str} {pats : List Pat} {k : Nat} {sp : Sp} (D : DefX K mg x st ps pats) (S : FnScope N ps (defScope st)) (len : ∀ vs H Q E, sp vs H Q E → vs.length = ps.length)
    (hbody : BodyX P w K mg base x st N k sp) : CalX P w K mg base (k + 1) x sp pats := by
  obtain ⟨f, fd, dvs, kws, F, hm, b⟩ := D.ex
  exact ⟨f, fd, ps, FnG.body F S len (fun cdv A outer s H vs Q E hr h => hbody f cdv A outer s H vs Q E hr h), hm, F.kp, b⟩
end
section
variable {X : Cx} {k j n : Nat} {f : Addr} {fd : FuncData} {ps ks : List Str} {g : List V → List V → List V} {sp : Sp} {x : Str} {pos p : Pos} {e : Expr} {es : List Expr} {kws : List Keyword} {t tk : TA} {W : WX}
theorem run_X {pins : List (Addr × Obj)} {σ : L2.St} {H : Hp} {s : Shared} {Q : VK} {us ws : List Value} {vs zs : List V} (F : FnG X.prog X.w X.K X.mg X.base (L2.CX X.prog X.w) k f fd ps sp) (hr : RoomG k X.A) (hb : Bnd X.K fd ps n ks g) (tkW : Takes X W)
    (I : Inv X pins σ H s) (r : Vals vs us) (rz : Vals zs ws) (l1 : vs.length = n) (l2 : zs.length = ks.length) (h : sp (g vs zs) H Q (WE W σ)) :
    wpAny (model X.prog X.w) X.A (call (.ref f) us (ks.zip ws)) (EP X pins σ Q) X.xe s := by
  obtain ⟨vv, b, r2⟩ := hb.to s us ws vs zs I.kIn l1 l2 r rz
  refine wpAny_call (codeAny_mono (F.run X.A X.stack s H ⟨us, ks.zip ws⟩ vv (g vs zs) Q (WE W σ) hr I.env0 b r2 h) fun rr s' hq => ?_)
  cases rr with
  | error er => exact passAt tkW σ pins H s er s' I hq
  | ok fl =>
    cases fl with
    | ret u => exact I.after hq
    | next => exact hq.elim
    | brk => exact hq.elim
    | cont => exact hq.elim
/-- f(e, .., k = v, ..) -/
def tCallX (n m : Nat) (sp : Sp) (g : List V → List V → List V) (W : WX) (t tk : TA) : TE := fun σ H Q => t σ H fun vs H1 => tk σ H1 fun zs H2 => vs.length = n ∧ zs.length = m ∧ sp (g vs zs) H2 Q (WE W σ)
theorem vx_callX {pats : List Pat} (c : CalX X.prog X.w X.K X.mg X.base k x sp pats) (pt : Pat) (hpt : pt ∈ pats) (hr : RoomG j X.A) (hk : k ≤ j) (tkW : Takes X W) (hg : Gl X x) (ha : PA X (e :: es) t) (hkw : PK X kws tk)
    (hall : (backToKw pos (keywordEach kws X.env)).all (·.1.isSome) = true := by rfl) (hks : (backToKw pos (keywordEach kws X.env)).filterMap (·.1) = pt.2.1 := by rfl)
    (hdb : (x == ("__debug__" : Str)) = false := by decide) (he : starEach (e :: es) X.env = (false, eval e X.env) :: starEach es X.env := by rfl)
    (hpl : ((backTo pos (starEach (e :: es) X.env)).any (·.1) || (backToKw pos (keywordEach kws X.env)).any (·.1.isNone)) = false := by rfl) :
    PE X (.Call (.Name x p) (e :: es) kws pos) (tCallX pt.1 pt.2.1.length sp pt.2.2 W t tk) := by
  obtain ⟨f, fd, ps, F, hm, kp, b⟩ := c.ex
  refine ⟨fun pins s σ H Q I h => ?_⟩
  refine wpAny_Call_Name_kw (ld_glob I hg hm ?_ hdb)
  refine PySem.W.callWith_KW (h₀ := X.base) I.ok.mod.kin kp hall (thn (ha.run pos pins s σ H _ I h) fun us s1 ⟨vs, H1, I1, r, q⟩ => ?_) hpl he
  refine thn (hkw.run pos pins s1 σ H1 _ I1 q) fun ws s2 ⟨zs, H2, I2, rz, l1, l2, q2⟩ => ⟨I2.kIn, ?_⟩
  rw [hks]
  exact run_X F (hr.low hk) (b pt hpt) tkW I2 r rz l1 l2 q2
theorem vx_callX0 {pats : List Pat} (c : CalX X.prog X.w X.K X.mg X.base k x sp pats) (pt : Pat) (hpt : pt ∈ pats) (hr : RoomG j X.A) (hk : k ≤ j) (tkW : Takes X W) (hg : Gl X x) (hks : pt.2.1 = [] := by rfl)
    (hdb : (x == ("__debug__" : Str)) = false := by decide) : PE X (.Call (.Name x p) [] [] pos) (tCallX pt.1 pt.2.1.length sp pt.2.2 W tNil tNil) := by
  obtain ⟨f, fd, ps, F, hm, kp, b⟩ := c.ex
  refine ⟨fun pins s σ H Q I h => ?_⟩
  refine wpAny_Call_Name_kw (ld_glob I hg hm ?_ hdb)
  obtain ⟨l1, l2, q2⟩ := h
  have hz := run_X (us := []) (ws := []) F (hr.low hk) (b pt hpt) tkW I .nil .nil l1 l2 q2
  rw [hks] at hz
  exact PySem.W.callWith_K0 I.kIn kp hz
end
/-! ### borrowed things -/
theorem Sep.bM {M : List Addr} {H0 G0 G H : Hp} {O : List (Addr)} (S : Sep M H0 G0 G H O) : Same (hideL M H0) H := fun b o e => by
  by_cases h : b ∈ M
  · rw [hideL_in h] at e
    cases e
  · rw [hideL_out h] at e
    exact S.base b o e h
theorem b_ne {M : List Addr} {H0 G0 G H : Hp} {O : List Addr} {a b : Addr} {o : HO} (h : (hideL M H0) a = some o) (S : Sep M H0 G0 G H O) (hb : b ∈ O) : a ≠ b := fun z => by
  subst z
  rcases (S.ow a hb).2.2 with q | q
  · rw [hideL_in q] at h
    cases h
  · by_cases hM : a ∈ M
    · rw [hideL_in hM] at h
      cases h
    · rw [hideL_out hM, q] at h
      cases h
theorem hide0 {H : Hp} : hideL [] H = H := by
  funext b
  unfold hideL
  rw [if_neg List.not_mem_nil]
theorem hide_nil {H : Hp} {a : Addr} {o : HO} (h : H a = some o) : (hideL [] H) a = some o := by
  rw [hide0]
  exact h
theorem Rp.hide_nil {H : Hp} {v : V} {d : PyData} (h : Rp H v d) : Rp (hideL [] H) v d := by
  rw [hide0]
  exact h
theorem Sep.startM {M : List Addr} {G H : Hp} (e : Same G H) (hM : ∀ a ∈ M, H a ≠ none) (hG : ∀ a ∈ M, G a = none) : Sep M H G G H M :=
  ⟨fun _ _ e _ => e, hM, e, Same.refl _, fun _ _ e => e, fun a ha => ⟨hG a ha, hM a ha, .inl ha⟩⟩
theorem Sep.gno {M : List Addr} {H0 G0 G H : Hp} {O L : List Addr} (S : Sep M H0 G0 G H O) (h : ∀ a ∈ L, a ∈ O) : ∀ a ∈ L, G a = none := fun a ha => (S.ow a (h a ha)).1
theorem RpAll.ixD {α : Type} [Inhabited α] {f : α → PyData} {H : Hp} {vs : List V} {xs : List α} {k : Int} (r : RpAll H vs (xs.map f)) (h : -(xs.length : Int) ≤ k ∧ k < xs.length) : ∃ v, atI vs k = some v ∧ Rp H v (f (itD xs k)) := by
  obtain ⟨v, x, h1, h2, h3⟩ := RpAll.ix r h
  refine ⟨v, h1, ?_⟩
  unfold itD
  rw [h2]
  exact h3
theorem tru_all {α : Type} [DecidableEq α] {f : α → PyData} {H : Hp} {vs : List V} {xs : List α} (r : RpAll H vs (xs.map f)) : (!decide (xs = [])) = !vs.isEmpty := by
  have h := r.len
  rw [List.length_map] at h
  cases xs <;> cases vs <;> simp_all
theorem ix_nn {α : Type} {xs : List α} {k : Int} (h0 : 0 ≤ k) (h1 : k < xs.length) : -(xs.length : Int) ≤ k ∧ k < xs.length := ⟨by omega, h1⟩
theorem all_nilQ {α : Type} {P : α → Prop} : ∀ x ∈ ([] : List α), P x := fun x h => by cases h
theorem all_consQ {α : Type} {P : α → Prop} {a : α} {l : List α} (h : P a) (t : ∀ x ∈ l, P x) : ∀ x ∈ a :: l, P x := fun x hx => by
  rcases List.mem_cons.mp hx with rfl | hx
  · exact h
  · exact t x hx
theorem mem_one {a b : Nat} (h : a ∈ [b]) : a = b := by simpa using h
theorem mem_cons2 {a b : Nat} {l : List Nat} (h : a ∈ b :: l) : a = b ∨ a ∈ l := List.mem_cons.mp h
theorem len0 {α : Type} {l : List α} (h : l.length = 0) : l = [] := List.length_eq_zero_iff.mp h
theorem len1 {α : Type} {l : List α} (h : l.length = 1) : ∃ a, l = [a] := List.length_eq_one_iff.mp h
theorem len_s {α : Type} {l : List α} {n : Nat} (h : l.length = n + 1) : ∃ a r, l = a :: r ∧ r.length = n := by
  cases l with
  | nil => cases h
  | cons a r => exact ⟨a, r, rfl, Nat.succ.inj h⟩
theorem len2 {α : Type} {l : List α} (h : l.length = 2) : ∃ a b, l = [a, b] := by
  obtain ⟨a, r, rfl, h2⟩ := len_s h
  obtain ⟨b, rfl⟩ := len1 h2
  exact ⟨a, b, rfl⟩
theorem len3 {α : Type} {l : List α} (h : l.length = 3) : ∃ a b c, l = [a, b, c] := by
  obtain ⟨a, r, rfl, h2⟩ := len_s h
  obtain ⟨b, c, rfl⟩ := len2 h2
  exact ⟨a, b, c, rfl⟩
theorem len4 {α : Type} {l : List α} (h : l.length = 4) : ∃ a b c d, l = [a, b, c, d] := by
  obtain ⟨a, r, rfl, h2⟩ := len_s h
  obtain ⟨b, c, d, rfl⟩ := len3 h2
  exact ⟨a, b, c, d, rfl⟩
theorem len5 {α : Type} {l : List α} (h : l.length = 5) : ∃ a b c d e, l = [a, b, c, d, e] := by
  obtain ⟨a, r, rfl, h2⟩ := len_s h
  obtain ⟨b, c, d, e, rfl⟩ := len4 h2
  exact ⟨a, b, c, d, e, rfl⟩
theorem len6 {α : Type} {l : List α} (h : l.length = 6) : ∃ a b c d e f, l = [a, b, c, d, e, f] := by
  obtain ⟨a, r, rfl, h2⟩ := len_s h
  obtain ⟨b, c, d, e, f, rfl⟩ := len5 h2
  exact ⟨a, b, c, d, e, f, rfl⟩
theorem len7 {α : Type} {l : List α} (h : l.length = 7) : ∃ a b c d e f g, l = [a, b, c, d, e, f, g] := by
  obtain ⟨a, r, rfl, h2⟩ := len_s h
  obtain ⟨b, c, d, e, f, g, rfl⟩ := len6 h2
  exact ⟨a, b, c, d, e, f, g, rfl⟩
def rLenTK (K : PySem.W.Frag) : List V → Hp → VK → Prop := fun xs H Q => ∃ (p : Addr) (vs : List V) (n : Nat), xs = [.ref p] ∧ SqT K H p vs ∧ vs.length = n ∧ Q (.int (n : Int)) H
theorem call_lenTK {X : Cx} {K : PySem.W.Frag} (hK : X.K = K := by rfl) : CallR X (.builtin "len") (rLenTK K) := by
  subst hK
  intro pins s σ H xs us Q I r h
  obtain ⟨p, vs, n, rfl, hs, hn, q⟩ := h
  exact call_len_seq pins s σ H _ us Q I r ⟨p, _, rfl, Or.inr hs, by rw [hn]; exact q⟩
theorem exm_mk {K : PySem.W.Frag} {S C : Addr} (h1 : PySem.W.subIn K (.ref C) (.type "BaseException") = some true) (h2 : PySem.W.isClsIn K C = true) (h3 : PySem.W.typeIn K (.ref C) = some (.type "type")) (h4 : PySem.W.subIn K (.ref S) (.ref C) = some true) :
    PySem.W.exmOne K (.ref S) (.ref C) = some true := by
  unfold PySem.W.isClsIn at h2
  unfold PySem.W.exmOne
  unfold PySem.W.kitCls
  simp only [h1, h2, h3, h4, beq_self_eq_true, Bool.and_self, if_true]
theorem kit_mk {K : PySem.W.Frag} {S C : Addr} (h2 : PySem.W.isClsIn K C = true) (h3 : PySem.W.typeIn K (.ref C) = some (.type "type")) (h4 : PySem.W.subIn K (.ref S) (.ref C) = some true) :
    PySem.W.kitOne K (.ref S) (.ref C) = some true := by
  unfold PySem.W.isClsIn at h2
  unfold PySem.W.kitOne
  split
  · rfl
  · unfold PySem.W.kitCls
    simp only [h2, h3, h4, beq_self_eq_true, Bool.and_self, if_true]
/-- isinstance(e, C) of the exception in hand -/
def rIsX (K : PySem.W.Frag) (a : Addr) (cls : Value) (d : Option Addr) : List V → Hp → VK → Prop := fun xs H Q => ∃ (D C : Addr) (b : Bool), cls = .ref D ∧ d = none ∧ ExcC K D ∧ xs = [.ref a, .ref C] ∧ PySem.W.kitOne K (.ref D) (.ref C) = some b ∧ Q (.bl b) H
theorem call_isX {X : Cx} {K : PySem.W.Frag} {a : Addr} {cls : Value} {d : Option Addr} {oe : Obj} {pn : List (Addr × Obj)} (hz : Zc cls d oe) (hf : ∃ vs, oe.data = .fields vs) (hK : X.K = K := by rfl) : CallR (X.suite a ((a, oe) :: pn)) (.builtin "isinstance") (rIsX K a cls d) := by
  subst hK
  intro pins s σ H xs us Q I r h
  obtain ⟨D, C, b, rfl, rfl, c, rfl, e, q⟩ := h
  exact call_isE c hz hf pins s σ H _ us Q I r ⟨_, _, b, rfl, fun u z => z, e, q⟩
/-! ### unpacking a list -/
section
variable {X : Cx} {K : PySem.W.Frag} {pos : Pos}
theorem pg_seqK {es : List Expr} {k : Nat} {t : TGs} {n : Nat} (h : PGs X es t) (hc : X.calm = true := by rfl) (hK : X.K = K := by rfl)
    (hn : (assignEach es X.env).length = n := by rfl) (hst : (assignEach es X.env).findIdx? (·.1) = none := by rfl) : PG X (.Tuple es k pos) (gLst K n t) := hK ▸ pg_lst hc h hn hst
end
theorem SqL.cast {K : PySem.W.Frag} {H : Hp} {a : Addr} {xs ys : List V} (h : SqL K H a xs) (e : xs = ys) : SqL K H a ys := e ▸ h
section
variable {α : Type} [Inhabited α] {f : α → V}
theorem unp2 {xs : List α} (h : xs.length = 2) : xs.map f = [f (itD xs 0), f (itD xs 1)] := by
  obtain ⟨a, b, rfl⟩ := len2 h
  rfl
theorem unp3 {xs : List α} (h : xs.length = 3) : xs.map f = [f (itD xs 0), f (itD xs 1), f (itD xs 2)] := by
  obtain ⟨a, b, c, rfl⟩ := len3 h
  rfl
theorem unp4 {xs : List α} (h : xs.length = 4) : xs.map f = [f (itD xs 0), f (itD xs 1), f (itD xs 2), f (itD xs 3)] := by
  obtain ⟨a, b, c, d, rfl⟩ := len4 h
  rfl
theorem unp6 {xs : List α} (h : xs.length = 6) : xs.map f = [f (itD xs 0), f (itD xs 1), f (itD xs 2), f (itD xs 3), f (itD xs 4), f (itD xs 5)] := by
  obtain ⟨a, b, c, d, e, g, rfl⟩ := len6 h
  rfl
theorem unp8 {xs : List α} (h : xs.length = 8) : xs.map f = [f (itD xs 0), f (itD xs 1), f (itD xs 2), f (itD xs 3), f (itD xs 4), f (itD xs 5), f (itD xs 6), f (itD xs 7)] := by
  obtain ⟨a, r, rfl, h2⟩ := len_s h
  obtain ⟨b, c, d, e, g, i, j, rfl⟩ := len7 h2
  rfl
end
/-! ### classes -/
section
variable {P : Program} {w : World} {K : PySem.W.Frag} {mg : Str → Option Value} {base : Heap}
structure MethX (K : PySem.W.Frag) (C : Addr) (q m : Str) (st : Stmt) (ps : List Str) (pats : List Pat) : Prop where
  ex : ∃ (f : Addr) (fd : FuncData) (dvs : List V) (kws : List (Str × V)), FunD K m q (defArgs st) (defBody st) (defScope st) dvs kws f fd ∧ Meth K C m f ∧ ∀ p ∈ pats, Bnd1 K fd ps p
structure InitX (K : PySem.W.Frag) (mg : Str → Option Value) (C : Addr) (cn q : Str) (st : Stmt) (ps : List Str) (pats : List Pat) : Prop where
  ex : ∃ (f : Addr) (fd : FuncData) (dvs : List V) (kws : List (Str × V)), FunD K "__init__" q (defArgs st) (defBody st) (defScope st) dvs kws f fd ∧ Mk K C f ∧ mg cn = some (.ref C) ∧ ∀ p ∈ pats, Bnd1 K fd ps p
structure PropX (K : PySem.W.Frag) (C : Addr) (q m : Str) (st : Stmt) (ps : List Str) (pats : List Pat) : Prop where
  ex : ∃ (r f : Addr) (fd : FuncData) (dvs : List V) (kws : List (Str × V)), FunD K m q (defArgs st) (defBody st) (defScope st) dvs kws f fd ∧ PropOf K C m r f ∧ Binds K fd ps []
structure MetX (P : Program) (w : World) (K : PySem.W.Frag) (mg : Str → Option Value) (base : Heap) (k : Nat) (C : Addr) (m : Str) (sp : Sp) (pats : List Pat) : Prop where
  ex : ∃ (f : Addr) (fd : FuncData) (ps : List Str), Cls K C ∧ Meth K C m f ∧ FnG P w K mg base (L2.CX P w) k f fd ps sp ∧ ∀ p ∈ pats, Bnd1 K fd ps p
structure PropY (P : Program) (w : World) (K : PySem.W.Frag) (mg : Str → Option Value) (base : Heap) (k : Nat) (C : Addr) (m : Str) (sp : Sp) (pats : List Pat) : Prop where
  ex : ∃ (q f : Addr) (fd : FuncData) (ps : List Str), Cls K C ∧ PropOf K C m q f ∧ FnG P w K mg base (L2.CX P w) k f fd ps sp ∧ Binds K fd ps []
structure MakX (P : Program) (w : World) (K : PySem.W.Frag) (mg : Str → Option Value) (base : Heap) (k : Nat) (cn : Str) (C : Addr) (sp : Sp) (pats : List Pat) : Prop where
  ex : ∃ (f : Addr) (fd : FuncData) (ps : List Str), Mk K C f ∧ FnG P w K mg base (L2.CX P w) k f fd ps sp ∧ mg cn = some (.ref C) ∧ ∀ p ∈ pats, Bnd1 K fd ps p
theorem MethX.ok {C : Addr} {q m : Str} {st : Stmt} {N ps : List Str} {pats : List Pat} {k : Nat} {sp : Sp} (D : MethX K C q m st ps pats) (c : Cls K C) (S : FnScope N ps (defScope st)) (len : ∀ vs H Q E, sp vs H Q E → vs.length = ps.length)
    (hbody : BodyX P w K mg base q st N k sp) : MetX P w K mg base (k + 1) C m sp pats := by
  obtain ⟨f, fd, dvs, kws, F, me, b⟩ := D.ex
  exact ⟨f, fd, ps, c, me, FnG.body F S len (fun cdv A outer s H vs Q E hr h => hbody f cdv A outer s H vs Q E hr h), b⟩
theorem PropX.ok {C : Addr} {q m : Str} {st : Stmt} {N ps : List Str} {pats : List Pat} {k : Nat} {sp : Sp} (D : PropX K C q m st ps pats) (c : Cls K C) (S : FnScope N ps (defScope st)) (len : ∀ vs H Q E, sp vs H Q E → vs.length = ps.length)
    (hbody : BodyX P w K mg base q st N k sp) : PropY P w K mg base (k + 1) C m sp pats := by
  obtain ⟨r, f, fd, dvs, kws, F, me, b⟩ := D.ex
  exact ⟨r, f, fd, ps, c, me, FnG.body F S len (fun cdv A outer s H vs Q E hr h => hbody f cdv A outer s H vs Q E hr h), b⟩
theorem InitX.ok {C : Addr} {cn q : Str} {st : Stmt} {N ps : List Str} {pats : List Pat} {k : Nat} {sp : Sp} (D : InitX K mg C cn q st ps pats) (S : FnScope N ps (defScope st)) (len : ∀ vs H Q E, sp vs H Q E → vs.length = ps.length)
    (hbody : BodyX P w K mg base q st N k sp) : MakX P w K mg base (k + 1) cn C sp pats := by
  obtain ⟨f, fd, dvs, kws, F, me, hm, b⟩ := D.ex
  exact ⟨f, fd, ps, me, FnG.body F S len (fun cdv A outer s H vs Q E hr h => hbody f cdv A outer s H vs Q E hr h), hm, b⟩
end
theorem cW_callN {α β : Type} {m : Rx β} {f : β → Rx α} {K : α → Prop} {E : Nat → Prop} {K2 : β → Prop} {E2 : Nat → Prop} (h : cW ((noEr m).bind f) K E) (ho : ∀ v, cW (f v) K E → K2 v) (_ : True) : cW m K2 E2 := by
  cases m with
  | ok a => exact cW_mk (ho a h)
  | er e => exact cW_bad (α := α) h
  | bad => exact cW_bad (α := α) h
section
variable {X : Cx} {k j n : Nat} {f C : Addr} {fd : FuncData} {ps ks : List Str} {g : List V → List V → List V} {sp : Sp} {x m : Str} {pos p apos : Pos} {e o : Expr} {es : List Expr} {kws : List Keyword} {ta : TE} {t tk : TA} {W : WX}
theorem run_mkX {pins : List (Addr × Obj)} {σ : L2.St} {H : Hp} {s : Shared} {Q : VK} {us ws : List Value} {vs zs : List V} (M : Mk X.K C f) (F : FnG X.prog X.w X.K X.mg X.base (L2.CX X.prog X.w) k f fd ps sp) (hr : RoomG (k + 1) X.A) (hb : Bnd X.K fd ps n ks g) (tkW : Takes X W)
    (I : Inv X pins σ H s) (r : Vals vs us) (rz : Vals zs ws) (l1 : vs.length + 1 = n) (l2 : zs.length = ks.length)
    (h : ∀ x dx, H x = none → H dx = none → dx ≠ x → sp (g (.ref x :: vs) zs) (upd (upd H dx (.own x)) x (.ins C dx [])) (fun v H2 => v = .non ∧ Q (.ref x) H2) (WE W σ)) :
    wpAny (model X.prog X.w) X.A (call (.ref C) us (ks.zip ws)) (EP X pins σ Q) X.xe s := by
  have hq := h (s.heap.objs.size + 1) s.heap.objs.size (I.hok.fresh (Nat.le_succ _)) (I.hok.fresh (Nat.le_refl _)) (Nat.ne_of_lt (Nat.lt_succ_self _))
  have I2 := Inv.made (C := C) I
  have r1 : Vals (V.ref (s.heap.objs.size + 1) :: vs) (Value.ref (s.heap.objs.size + 1) :: us) := .cons rfl r
  obtain ⟨vv, b, r2⟩ := hb.to _ (Value.ref (s.heap.objs.size + 1) :: us) ws (V.ref (s.heap.objs.size + 1) :: vs) zs I2.kIn (by rw [List.length_cons, l1]) l2 r1 rz
  refine wpAny_call (make_map (f := f) I.kIn M.makes M.init (beq_iff_eq.mp M.fn) (codeAny_mono (F.run _ X.stack _ _ ⟨Value.ref (s.heap.objs.size + 1) :: us, ks.zip ws⟩ vv _ _ (WE W σ) (hr.made C us (ks.zip ws))
    (I2.env0.make C us (ks.zip ws)) b r2 hq) fun r s' hq' => ?_))
  cases r with
  | error e => exact passAt tkW σ pins _ _ e s' I2 hq'
  | ok fl =>
    cases fl with
    | ret u =>
      obtain ⟨v, H', I3, rv, ev, q3⟩ := I2.after hq'
      subst ev
      exact ⟨rv, ⟨V.ref (s.heap.objs.size + 1), H', I3, rfl, q3⟩⟩
    | next => exact False.elim hq'
    | brk => exact False.elim hq'
    | cont => exact False.elim hq'
/-- C(e, .., k = v, ..) -/
def tMakeX (C : Addr) (n m : Nat) (sp : Sp) (g : List V → List V → List V) (W : WX) (t tk : TA) : TE := fun σ H Q => t σ H fun vs H1 => tk σ H1 fun zs H2 => vs.length + 1 = n ∧ zs.length = m ∧ ∀ x dx, H2 x = none → H2 dx = none → dx ≠ x →
  sp (g (.ref x :: vs) zs) (upd (upd H2 dx (.own x)) x (.ins C dx [])) (fun v H3 => v = .non ∧ Q (.ref x) H3) (WE W σ)
theorem vx_makeX {pats : List Pat} (c : MakX X.prog X.w X.K X.mg X.base k x C sp pats) (pt : Pat) (hpt : pt ∈ pats) (hr : RoomG j X.A) (hk : k + 1 ≤ j) (tkW : Takes X W) (hg : Gl X x) (ha : PA X (e :: es) t) (hkw : PK X kws tk)
    (hall : (backToKw pos (keywordEach kws X.env)).all (·.1.isSome) = true := by rfl) (hks : (backToKw pos (keywordEach kws X.env)).filterMap (·.1) = pt.2.1 := by rfl) (hdb : (x == ("__debug__" : Str)) = false := by decide)
    (he : starEach (e :: es) X.env = (false, eval e X.env) :: starEach es X.env := by rfl) (hpl : ((backTo pos (starEach (e :: es) X.env)).any (·.1) || (backToKw pos (keywordEach kws X.env)).any (·.1.isNone)) = false := by rfl) :
    PE X (.Call (.Name x p) (e :: es) kws pos) (tMakeX C pt.1 pt.2.1.length sp pt.2.2 W t tk) := by
  obtain ⟨f, fd, ps, M, F, hm, b⟩ := c.ex
  refine ⟨fun pins s σ H Q I h => ?_⟩
  refine wpAny_Call_Name_kw (ld_glob I hg hm ?_ hdb)
  refine PySem.W.callWith_KW (h₀ := X.base) I.ok.mod.kin M.kp hall (thn (ha.run pos pins s σ H _ I h) fun us s1 ⟨vs, H1, I1, r, q⟩ => ?_) hpl he
  refine thn (hkw.run pos pins s1 σ H1 _ I1 q) fun ws s2 ⟨zs, H2, I2, rz, l1, l2, q2⟩ => ⟨I2.kIn, ?_⟩
  rw [hks]
  exact run_mkX M F (hr.low hk) (b pt hpt) tkW I2 r rz l1 l2 q2
theorem vx_makeX0 {pats : List Pat} (c : MakX X.prog X.w X.K X.mg X.base k x C sp pats) (pt : Pat) (hpt : pt ∈ pats) (hr : RoomG j X.A) (hk : k + 1 ≤ j) (tkW : Takes X W) (hg : Gl X x) (hks : pt.2.1 = [] := by rfl)
    (hdb : (x == ("__debug__" : Str)) = false := by decide) : PE X (.Call (.Name x p) [] [] pos) (tMakeX C pt.1 pt.2.1.length sp pt.2.2 W tNil tNil) := by
  obtain ⟨f, fd, ps, M, F, hm, b⟩ := c.ex
  refine ⟨fun pins s σ H Q I h => ?_⟩
  refine wpAny_Call_Name_kw (ld_glob I hg hm ?_ hdb)
  obtain ⟨l1, l2, q2⟩ := h
  have hz := run_mkX (us := []) (ws := []) M F (hr.low hk) (b pt hpt) tkW I .nil .nil l1 l2 q2
  rw [hks] at hz
  exact PySem.W.callWith_K0 I.kIn M.kp hz
/-- o.m(e, .., k = v, ..) -/
def tMethX (C : Addr) (m : Str) (n mm : Nat) (sp : Sp) (g : List V → List V → List V) (W : WX) (ta : TE) (t tk : TA) : TE := fun σ H Q => ta σ H fun x H1 => ∃ a dx fs, x = .ref a ∧ H1 a = some (.ins C dx fs) ∧ fs.lookup m = none ∧
  t σ H1 fun vs H2 => tk σ H2 fun zs H3 => (x :: vs).length = n ∧ zs.length = mm ∧ sp (g (x :: vs) zs) H3 Q (WE W σ)
theorem vx_methX {pats : List Pat} {pl : Sem Bool} (c : MetX X.prog X.w X.K X.mg X.base k C m sp pats) (pt : Pat) (hpt : pt ∈ pats) (hr : RoomG j X.A) (hk : k ≤ j) (tkW : Takes X W) (he : PE X o ta) (ha : PA X (e :: es) t) (hkw : PK X kws tk)
    (hall : (backToKw pos (keywordEach kws X.env)).all (·.1.isSome) = true := by rfl) (hks : (backToKw pos (keywordEach kws X.env)).filterMap (·.1) = pt.2.1 := by rfl)
    (hst : starEach (e :: es) X.env = (false, eval e X.env) :: starEach es X.env := by rfl) (hpl : ((backTo pos (starEach (e :: es) X.env)).any (·.1) || (backToKw pos (keywordEach kws X.env)).any (·.1.isNone)) = false := by rfl)
    (ht : eval (.Call (.Attribute o m apos) (e :: es) kws pos) X.env = (do
      let ov ← eval o X.env
      standAt apos.atName
      let (f, first) ← holding [ov] (getMethod ov m pl)
      callWith pos f first (backTo pos (starEach (e :: es) X.env)) (backToKw pos (keywordEach kws X.env))) := by rfl) :
    PE X (.Call (.Attribute o m apos) (e :: es) kws pos) (tMethX C m pt.1 pt.2.1.length sp pt.2.2 W ta t tk) := by
  obtain ⟨f, fd, ps, hc, hm, F, b⟩ := c.ex
  refine ⟨fun pins s σ H Q I h => ?_⟩
  refine PySem.W.methodCall_KW (pl := pl) (thn (he.run pins s σ H _ I h) fun u s1 ⟨x, H1, I1, rx, a, dx, fs, ex, ea, l, q⟩ => ?_) ht
  subst ex
  obtain rfl : u = Value.ref a := rx
  refine getmeth_ok I1 ea hc hm l ?_
  refine PySem.W.callWith_KW (first := [.ref a]) (h₀ := X.base) I.ok.mod.kin hm.kp hall (thn (ha.run pos pins s1 σ H1 _ I1 q) fun us s2 ⟨vs, H2, I2, r, q2⟩ => ?_) hpl hst
  refine thn (hkw.run pos pins s2 σ H2 _ I2 q2) fun ws s3 ⟨zs, H3, I3, rz, l1, l2, q3⟩ => ⟨I3.kIn, ?_⟩
  rw [hks]
  exact run_X (us := .ref a :: us) (vs := .ref a :: vs) F (hr.low hk) (b pt hpt) tkW I3 (.cons rfl r) rz l1 l2 q3
theorem vx_methX0 {pats : List Pat} {pl : Sem Bool} (c : MetX X.prog X.w X.K X.mg X.base k C m sp pats) (pt : Pat) (hpt : pt ∈ pats) (hr : RoomG j X.A) (hk : k ≤ j) (tkW : Takes X W) (he : PE X o ta) (hks : pt.2.1 = [] := by rfl)
    (ht : eval (.Call (.Attribute o m apos) [] [] pos) X.env = (do
      let ov ← eval o X.env
      standAt apos.atName
      let (f, first) ← holding [ov] (getMethod ov m pl)
      callWith pos f first (backTo pos (starEach [] X.env)) (backToKw pos (keywordEach [] X.env))) := by rfl) :
    PE X (.Call (.Attribute o m apos) [] [] pos) (tMethX C m pt.1 pt.2.1.length sp pt.2.2 W ta tNil tNil) := by
  obtain ⟨f, fd, ps, hc, hm, F, b⟩ := c.ex
  refine ⟨fun pins s σ H Q I h => ?_⟩
  refine PySem.W.methodCall_KW (pl := pl) (thn (he.run pins s σ H _ I h) fun u s1 ⟨x, H1, I1, rx, a, dx, fs, ex, ea, l, q⟩ => ?_) ht
  subst ex
  obtain rfl : u = Value.ref a := rx
  refine getmeth_ok I1 ea hc hm l ?_
  obtain ⟨l1, l2, q3⟩ := q
  have hz := run_X (us := [.ref a]) (vs := [.ref a]) (ws := []) F (hr.low hk) (b pt hpt) tkW I1 (.cons rfl .nil) .nil l1 l2 q3
  rw [hks] at hz
  exact PySem.W.callWith_K0 (first := [.ref a]) I1.kIn hm.kp hz
theorem vx_propX {pats : List Pat} (c : PropY X.prog X.w X.K X.mg X.base k C m sp pats) (hr : RoomG j X.A) (hk : k + 1 ≤ j) (he : PE X o ta) (hab : attributeBase o m X.env (eval o X.env) = eval o X.env := by rfl) : PE X (.Attribute o m pos) (tProp C sp [] E0 ta) := by
  obtain ⟨q, f, fd, ps, cls, prop, F, bind⟩ := c.ex
  constructor
  intro pins s σ H Q I h
  refine attr_of hab (thn (he.run pins s σ H _ I h) ?_)
  rintro u s1 ⟨x, H1, I1, rx, a, dx, fs, rfl, ea, prom⟩
  cases rx
  obtain ⟨mA, O, _⟩ := ins_get I1.hok ea
  obtain ⟨od, J, _⟩ := O.look
  obtain ⟨rest, rec_⟩ := prop.rec_
  have short : [Value.ref a].length = ps.length := (F.len _ _ _ _ prom).symm ▸ rfl
  have isCls : (PySem.W.clsIn X.K C).isSome = true := by
    obtain ⟨cd, e, _⟩ := PySem.W.any_some cls.hd
    rw [e]
    rfl
  refine PySem.W.get_bind I1.kIn J (PySem.W.plainGet_of (cls.get m)).1 (PySem.W.findObj_data isCls prop.at_ prop.get prop.tak) (PySem.W.plainGet_of (cls.get m)).2 (wpAny_call (PySem.W.prop_get (s := { s1 with toks := s1.toks + 1 }) I1.kIn rec_ ?_))
  have I2 := I1.tok (s1.toks + 1)
  refine codeAny_mono (F.run X.A.in1 X.stack _ H1 ⟨[.ref a], []⟩ [.ref a] [.ref a] Q E0 (hr.low hk).one I2.env0.in1 (by simpa using bind _ [.ref a] I2.kIn (by simpa using short)) (.cons rfl .nil) prom) ?_
  intro r s2 out
  cases r with
  | error er => exact (passL (X := X.nox) pins σ H1 _ er s2 (I2.wish _) out).elim
  | ok flow =>
    cases flow with
    | ret v =>
      obtain ⟨y, H2, I3, ry, qy⟩ := I2.after out
      have given := PySem.W.handedOut_of (handed_of ry)
      show wpAny _ _ (handedOut v) _ _ s2
      rw [given]
      exact wpAny_pure ⟨y, H2, I3, ry, qy⟩
    | next => exact out.elim
    | brk => exact out.elim
    | cont => exact out.elim
end
theorem Sep.news {M : List Addr} {H0 G0 G H H' : Hp} {O : List Addr} (S : Sep M H0 G0 G H O) (e : Same H H') (L : List Addr) (hL : ∀ a ∈ L, H a = none ∧ H' a ≠ none ∧ H0 a = none) : Sep M H0 G0 G H' (L ++ O) := by
  have S2 := S.same e
  refine ⟨S2.base, S2.pm, S2.sG, S2.g0, S2.gn, fun a ha => ?_⟩
  rcases List.mem_append.mp ha with h | h
  · obtain ⟨h1, h2, h3⟩ := hL a h
    exact ⟨S.gfree h1, h2, .inr h3⟩
  · exact S2.ow a h
theorem vv_chain {r r' : R2} {ta tb tc : TE} {σ : L2.St} {H : Hp} {x y z : V} {a b : Bool} (ha : Val ta σ H x) (hb : Val tb σ H y) (hc : Val tc σ H z) (h1 : ∀ Q : VK, Q (.bl a) H → r x y H Q) (h2 : ∀ Q : VK, Q (.bl b) H → r' y z H Q) :
    Val (tChain r r' ta tb tc) σ H (.bl (a && b)) := fun Q q => ha _ (hb _ (h1 _ ⟨a, rfl, by
  cases a with
  | true =>
    rw [if_pos rfl]
    exact hc _ (h2 _ q)
  | false =>
    rw [if_neg Bool.false_ne_true]
    exact q⟩))
/-! ### constants that are tuples, lists backwards, zip -/
theorem inV_ints (x : Int) : ∀ xs : List Int, inV (V.int x) (xs.map V.int) = decide (x ∈ xs)
  | [] => by simp [inV]
  | y :: r => by
    have h := inV_ints x r
    unfold inV at h ⊢
    rw [List.map_cons, List.any_cons, h]
    by_cases c : x = y
    · subst c
      simp [eqV]
    · simp [eqV, c, Ne.symm c]
theorem flat_ints : ∀ xs : List Int, (xs.map V.int).all flatV = true
  | [] => rfl
  | _ :: r => flat_ints r
def rInI (K : PySem.W.Frag) : R2 := fun x y H Q => ∃ (i : Int) (p : Addr) (xs : List Int), x = .int i ∧ y = .ref p ∧ (SqL K H p (xs.map V.int) ∨ SqT K H p (xs.map V.int)) ∧ Q (.bl (decide (i ∈ xs))) H
def rNotInI (K : PySem.W.Frag) : R2 := fun x y H Q => ∃ (i : Int) (p : Addr) (xs : List Int), x = .int i ∧ y = .ref p ∧ (SqL K H p (xs.map V.int) ∨ SqT K H p (xs.map V.int)) ∧ Q (.bl (!decide (i ∈ xs))) H
theorem op_inI {X : Cx} {K : PySem.W.Frag} (hK : X.K = K := by rfl) : OpR X (compareOp .In) (rInI K) := by
  subst hK
  intro pins s σ H x y v u Q I rx ry h
  obtain ⟨i, p, xs, rfl, rfl, hs, q⟩ := h
  refine op_in_seq pins s σ H _ _ v u Q I rx ry ⟨p, _, rfl, hs, rfl, flat_ints xs, ?_⟩
  rw [if_neg Bool.false_ne_true, inV_ints]
  exact q
theorem op_notInI {X : Cx} {K : PySem.W.Frag} (hK : X.K = K := by rfl) : OpR X (compareOp .NotIn) (rNotInI K) := by
  subst hK
  intro pins s σ H x y v u Q I rx ry h
  obtain ⟨i, p, xs, rfl, rfl, hs, q⟩ := h
  refine op_notIn_seq pins s σ H _ _ v u Q I rx ry ⟨p, _, rfl, hs, rfl, flat_ints xs, ?_⟩
  rw [if_pos rfl, inV_ints]
  exact q
theorem pe_revLK {X : Cx} {K : PySem.W.Frag} {e : Expr} {te : TE} {k : Nat} {p1 p2 p3 pos : Pos} (he : PE X e te) (hK : X.K = K := by rfl) : PE X (.Subscript e (.Slice none none (some (.UnaryOp .USub (.Constant (.int 1) k p1) p2)) p3) pos) (tRevL K te) := hK ▸ pe_revL he
theorem rev_map {α : Type} {f : α → V} {xs : List α} {H : Hp} {p : Addr} (h : H p = some (.lst (xs.map f).reverse)) : H p = some (.lst (xs.reverse.map f)) := by
  rw [List.map_reverse]
  exact h
theorem RpAll.rev {G : Hp} : ∀ {vs : List V} {ds : List PyData}, RpAll G vs ds → RpAll G vs.reverse ds.reverse
  | _, _, .nil => .nil
  | _, _, .cons h t => by
    rw [List.reverse_cons, List.reverse_cons]
    exact (RpAll.rev t).append (.one h)
theorem rev_all {α : Type} {f : α → PyData} {xs : List α} {G : Hp} {vs : List V} (a : RpAll G vs (xs.map f)) : RpAll G vs.reverse (xs.reverse.map f) := by
  rw [List.map_reverse]
  exact a.rev
theorem pi_zipK {X : Cx} {K : PySem.W.Frag} {e e2 : Expr} {ta : TA} {p pos tpos : Pos} {elts : List Expr} {kk : Nat} (hg : Gl X "zip") (hm : X.mg "zip" = none) (ha : PA X [e, e2] ta) (hK : X.K = K := by rfl)
    (hs : starEach [e, e2] X.env = (false, eval e X.env) :: starEach [e2] X.env := by rfl) (hpl : (backTo pos (starEach [e2] X.env)).any (·.1) = false := by rfl) :
    PI X (.Tuple elts kk tpos) (.Call (.Name "zip" p) [e, e2] [] pos) (RZ.iZipA K ta) := hK ▸ RZ.pi_zipA hg hm ha hs hpl
/-- a comprehension over zip of two lists of one length -/
theorem lc_zipL {K : PySem.W.Frag} {a b : Addr} {xs ys : List V} {g : TG} {tt : TT} {te : TE} {vs : List Nat} {σ : L2.St} {H1 : Hp} {D : Addr} {Qd : Hp → Prop} (hl : xs.length = ys.length) (Pv : Nat → Hp → Prop) (h0 : Pv 0 (upd H1 D (.lst []))) (hq : ∀ i H, i ≤ xs.length → Pv i H → SqL K H a xs ∧ SqL K H b ys)
    (hs : ∀ (i : Nat) (x y : V) (T : Addr) (H : Hp), xs[i]? = some x → ys[i]? = some y → H T = none → Pv i H → g (.ref T) (wipe σ vs) (upd H T (.tup [x, y])) fun σ2 H2 => wipe σ2 vs = wipe σ vs ∧ tt σ2 H2 fun b H3 =>
      if b = true then te σ2 H3 fun y H4 => ∃ acc, H4 D = some (.lst acc) ∧ acc.length < sizeLine ∧ Pv (i + 1) (upd H4 D (.lst (acc ++ [y]))) else Pv (i + 1) H3) (hd : ∀ H, Pv xs.length H → Qd H) :
    ∃ W : Nat → Nat → Hp → Prop, (∃ m, W 0 m (upd H1 D (.lst []))) ∧ ∀ i m H, W i m H →
      ((Itz K a b).stop i H ∧ Qd H) ∨ ((Itz K a b).go i H ∧ ∃ Nx : Hp → Prop, (∀ H', Nx H' → ∃ m', m' < m ∧ W (i + 1) m' H') ∧ ∀ x H', (Itz K a b).yld i H x H' → g x (wipe σ vs) H' fun σ2 H2 => wipe σ2 vs = wipe σ vs ∧ tt σ2 H2 fun b H3 =>
        if b = true then te σ2 H3 fun y H4 => ∃ acc, H4 D = some (.lst acc) ∧ acc.length < sizeLine ∧ Nx (upd H4 D (.lst (acc ++ [y]))) else Nx H3) := by
  refine ⟨fun i m H => m = xs.length - i ∧ i ≤ xs.length ∧ Pv i H, ⟨xs.length, by simp, Nat.zero_le _, h0⟩, ?_⟩
  rintro i m H ⟨rfl, hi, p⟩
  obtain ⟨qx, qy⟩ := hq i H hi p
  by_cases hlt : i < xs.length
  · have hlt2 : i < ys.length := by omega
    refine .inr ⟨⟨xs, ys, xs[i], ys[i], qx, qy, List.getElem?_eq_getElem hlt, List.getElem?_eq_getElem hlt2⟩, Pv (i + 1), fun H' p' => ⟨xs.length - (i + 1), by omega, rfl, hlt, p'⟩, fun v H' y => ?_⟩
    obtain ⟨T, x', y', rfl, hT, rfl, f1, f2⟩ := y
    exact hs i x' y' T H (f1 xs qx) (f2 ys qy) hT p
  · have e : i = xs.length := by omega
    subst e
    exact .inl ⟨⟨xs, ys, qx, qy, Or.inl (Nat.le_refl _)⟩, hd H p⟩
theorem zip_get {α β : Type} {xs : List α} {ys : List β} {i : Nat} {x : α} {y : β} (h1 : xs[i]? = some x) (h2 : ys[i]? = some y) : (xs.zip ys)[i]? = some (x, y) := by
  rw [List.getElem?_zip_eq_some]
  exact ⟨h1, h2⟩
theorem zip_len {α β : Type} {xs : List α} {ys : List β} {n : Nat} (h : xs.length = ys.length) (e : n = xs.length) : n = (xs.zip ys).length := by
  rw [List.length_zip, ← h, Nat.min_self]
  exact e
theorem zlen {α β : Type} {vs ws : List V} {xs : List α} {ys : List β} (a : vs.length = xs.length) (b : ws.length = ys.length) (h : xs.length = ys.length) : vs.length = ws.length := by rw [a, b, h]
section
variable {t : TT} {ta tb : TE} {σ : L2.St} {H : Hp}
theorem vv_ifP {p : Prop} [Decidable p] {a b : Int} (ht : Ans t σ H (decide p)) (hx : p → Val ta σ H (.int a)) (hy : ¬ p → Val tb σ H (.int b)) : Val (tIf t ta tb) σ H (.int (if p then a else b)) := by
  by_cases h : p
  · have := vv_if (p := p) (a := a) (b := a) ht (hx h) (tb := ta) (hx h)
    intro Q q
    refine ht _ ?_
    rw [decide_eq_true h, if_pos rfl]
    rw [if_pos h] at q
    exact hx h _ q
  · intro Q q
    refine ht _ ?_
    rw [decide_eq_false h, if_neg Bool.false_ne_true]
    rw [if_neg h] at q
    exact hy h _ q
theorem vv_ifQ {c : Bool} {a b : Int} (ht : Ans t σ H c) (hx : c = true → Val ta σ H (.int a)) (hy : c = false → Val tb σ H (.int b)) : Val (tIf t ta tb) σ H (.int (if c = true then a else b)) := by
  intro Q q
  refine ht _ ?_
  cases c with
  | true =>
    rw [if_pos rfl]
    rw [if_pos rfl] at q
    exact hx rfl _ q
  | false =>
    rw [if_neg Bool.false_ne_true]
    rw [if_neg Bool.false_ne_true] at q
    exact hy rfl _ q
end
theorem kit_mk0 {K : PySem.W.Frag} {S C : Addr} (h1 : (Value.ref S == Value.ref C) = false) (h2 : PySem.W.isClsIn K C = true) (h3 : PySem.W.typeIn K (.ref C) = some (.type "type")) (h4 : PySem.W.subIn K (.ref S) (.ref C) = some false) :
    PySem.W.kitOne K (.ref S) (.ref C) = some false := by
  unfold PySem.W.isClsIn at h2
  unfold PySem.W.kitOne
  rw [if_neg (by rw [h1]; exact Bool.false_ne_true)]
  unfold PySem.W.kitCls
  simp only [h2, h3, h4, beq_self_eq_true, Bool.and_self, if_true]
theorem vv_call2 {ta tb : TE} {σ : L2.St} {H : Hp} {x y z : V} {r : List V → Hp → VK → Prop} (ha : Val ta σ H x) (hb : Val tb σ H y) (hr : ∀ Q : VK, Q z H → r [x, y] H Q) : Val (tCB r (tCons ta (tCons tb tNil))) σ H z := fun Q q => ha _ (hb _ (hr Q q))
/-! ### lists of data that the caller owns; values that are a truth value or a number -/
theorem Sep.stepnew {M : List Addr} {H0 G0 G H H' : Hp} {O : List Addr} {p : Addr} {o : HO} (S : Sep M H0 G0 G H O) {G' : Hp} (e : Same H H') (eG : Same G G') (sG : Same G' H') (hn : ∀ b, H b ≠ none → G b = none → G' b = none) (_n : H p = none) (h : H' p = some o) (g : G' p = none) (hm : H0 p = none) : Sep M H0 G0 G' H' (p :: O) := by
  have S2 := S.step e eG sG hn
  refine ⟨S2.base, S2.pm, S2.sG, S2.g0, S2.gn, fun a ha => ?_⟩
  rcases List.mem_cons.mp ha with rfl | ha
  · exact ⟨g, (fun z => by rw [z] at h; cases h), .inr hm⟩
  · exact S2.ow a ha
inductive Bi where
  | b (x : Bool)
  | n (i : Int)
deriving DecidableEq
def biV : Bi → V
  | .b x => .bl x
  | .n i => .int i
def Bi.el {α : Type} (v : Bi) (f : Bool → α) (g : Int → α) : α :=
  match v with
  | .b x => f x
  | .n i => g i
theorem cW_elb {α : Type} {x : Bool} {f : Bool → Rx α} {g : Int → Rx α} {K : α → Prop} {E : Nat → Prop} (h : cW (Bi.el (.b x) f g) K E) : cW (f x) K E := h
theorem cW_eln {α : Type} {x : Int} {f : Bool → Rx α} {g : Int → Rx α} {K : α → Prop} {E : Nat → Prop} (h : cW (Bi.el (.n x) f g) K E) : cW (g x) K E := h
theorem rp_tup4 {α β γ δ : Type} {f : α → PyData} {g : β → PyData} {h : γ → PyData} {i : δ → PyData} {H : Hp} {v : V} {x : α × β × γ × δ} (r : Rp H v (encT4 f g h i x)) : ∃ a v1 v2 v3 v4, v = .ref a ∧ H a = some (.tup [v1, v2, v3, v4]) ∧ Rp H v1 (f x.1) ∧ Rp H v2 (g x.2.1) ∧ Rp H v3 (h x.2.2.1) ∧ Rp H v4 (i x.2.2.2) := by
  unfold encT4 at r
  cases r with
  | tup h1 h2 =>
    cases h2 with
    | cons a b =>
      cases b with
      | cons b c =>
        cases c with
        | cons c d =>
          cases d with
          | cons d e =>
            cases e
            exact ⟨_, _, _, _, _, rfl, h1, a, b, c, d⟩
theorem rp_mk4 {α β γ δ : Type} {f : α → PyData} {g : β → PyData} {h : γ → PyData} {i : δ → PyData} {H : Hp} {a : Addr} {v1 v2 v3 v4 : V} {x : α} {y : β} {z : γ} {w : δ} (h1 : H a = some (.tup [v1, v2, v3, v4])) (r1 : Rp H v1 (f x)) (r2 : Rp H v2 (g y)) (r3 : Rp H v3 (h z)) (r4 : Rp H v4 (i w)) : Rp H (.ref a) (encT4 f g h i (x, y, z, w)) := .tup h1 (.cons r1 (.cons r2 (.cons r3 (.cons r4 .nil))))
theorem Sep.b0M {M : List Addr} {H0 G0 G H : Hp} {O : List Addr} (S : Sep M H0 G0 G H O) (h : ∀ a ∈ M, H a = H0 a) : Same H0 H := fun b o e => by
  by_cases z : b ∈ M
  · rw [h b z]
    exact e
  · exact S.base b o e z
section
variable {X : Cx} {k j n : Nat} {f C : Addr} {fd : FuncData} {ps ks : List Str} {g : List V → List V → List V} {sp : Sp} {x m : Str} {pos p apos : Pos} {e o : Expr} {es : List Expr} {kws : List Keyword} {ta : TE} {t tk : TA} {W : WX}
/-- keywords alone -/
theorem vx_makeXK {pats : List Pat} (c : MakX X.prog X.w X.K X.mg X.base k x C sp pats) (pt : Pat) (hpt : pt ∈ pats) (hr : RoomG j X.A) (hk : k + 1 ≤ j) (tkW : Takes X W) (hg : Gl X x) (hkw : PK X kws tk)
    (hall : (backToKw pos (keywordEach kws X.env)).all (·.1.isSome) = true := by rfl) (hks : (backToKw pos (keywordEach kws X.env)).filterMap (·.1) = pt.2.1 := by rfl) (hdb : (x == ("__debug__" : Str)) = false := by decide)
    (hpl : ((backTo pos (starEach [] X.env)).any (·.1) || (backToKw pos (keywordEach kws X.env)).any (·.1.isNone)) = false := by rfl) :
    PE X (.Call (.Name x p) [] kws pos) (tMakeX C pt.1 pt.2.1.length sp pt.2.2 W tNil tk) := by
  obtain ⟨f, fd, ps, M, F, hm, b⟩ := c.ex
  refine ⟨fun pins s σ H Q I h => ?_⟩
  refine wpAny_Call_Name_kw (ld_glob I hg hm ?_ hdb)
  refine PySem.W.callWith_KW0 (h₀ := X.base) I.ok.mod.kin M.kp hall ?_ hpl
  refine thn (hkw.run pos pins s σ H _ I h) fun ws s2 ⟨zs, H2, I2, rz, l1, l2, q2⟩ => ⟨I2.kIn, ?_⟩
  rw [hks]
  exact run_mkX (us := []) (vs := []) M F (hr.low hk) (b pt hpt) tkW I2 .nil rz l1 l2 q2
theorem vx_callXK {pats : List Pat} (c : CalX X.prog X.w X.K X.mg X.base k x sp pats) (pt : Pat) (hpt : pt ∈ pats) (hr : RoomG j X.A) (hk : k ≤ j) (tkW : Takes X W) (hg : Gl X x) (hkw : PK X kws tk)
    (hall : (backToKw pos (keywordEach kws X.env)).all (·.1.isSome) = true := by rfl) (hks : (backToKw pos (keywordEach kws X.env)).filterMap (·.1) = pt.2.1 := by rfl) (hdb : (x == ("__debug__" : Str)) = false := by decide)
    (hpl : ((backTo pos (starEach [] X.env)).any (·.1) || (backToKw pos (keywordEach kws X.env)).any (·.1.isNone)) = false := by rfl) :
    PE X (.Call (.Name x p) [] kws pos) (tCallX pt.1 pt.2.1.length sp pt.2.2 W tNil tk) := by
  obtain ⟨f, fd, ps, F, hm, kp, b⟩ := c.ex
  refine ⟨fun pins s σ H Q I h => ?_⟩
  refine wpAny_Call_Name_kw (ld_glob I hg hm ?_ hdb)
  refine PySem.W.callWith_KW0 (h₀ := X.base) I.ok.mod.kin kp hall ?_ hpl
  refine thn (hkw.run pos pins s σ H _ I h) fun ws s2 ⟨zs, H2, I2, rz, l1, l2, q2⟩ => ⟨I2.kIn, ?_⟩
  rw [hks]
  exact run_X (us := []) (vs := []) F (hr.low hk) (b pt hpt) tkW I2 .nil rz l1 l2 q2
theorem vx_methXK {pats : List Pat} {pl : Sem Bool} (c : MetX X.prog X.w X.K X.mg X.base k C m sp pats) (pt : Pat) (hpt : pt ∈ pats) (hr : RoomG j X.A) (hk : k ≤ j) (tkW : Takes X W) (he : PE X o ta) (hkw : PK X kws tk)
    (hall : (backToKw pos (keywordEach kws X.env)).all (·.1.isSome) = true := by rfl) (hks : (backToKw pos (keywordEach kws X.env)).filterMap (·.1) = pt.2.1 := by rfl)
    (hpl : ((backTo pos (starEach [] X.env)).any (·.1) || (backToKw pos (keywordEach kws X.env)).any (·.1.isNone)) = false := by rfl)
    (ht : eval (.Call (.Attribute o m apos) [] kws pos) X.env = (do
      let ov ← eval o X.env
      standAt apos.atName
      let (f, first) ← holding [ov] (getMethod ov m pl)
      callWith pos f first (backTo pos (starEach [] X.env)) (backToKw pos (keywordEach kws X.env))) := by rfl) :
    PE X (.Call (.Attribute o m apos) [] kws pos) (tMethX C m pt.1 pt.2.1.length sp pt.2.2 W ta tNil tk) := by
  obtain ⟨f, fd, ps, hc, hm, F, b⟩ := c.ex
  refine ⟨fun pins s σ H Q I h => ?_⟩
  refine PySem.W.methodCall_KW (pl := pl) (thn (he.run pins s σ H _ I h) fun u s1 ⟨x, H1, I1, rx, a, dx, fs, ex, ea, l, q⟩ => ?_) ht
  subst ex
  obtain rfl : u = Value.ref a := rx
  refine getmeth_ok I1 ea hc hm l ?_
  refine PySem.W.callWith_KW0 (first := [.ref a]) (h₀ := X.base) I.ok.mod.kin hm.kp hall ?_ hpl
  refine thn (hkw.run pos pins s1 σ H1 _ I1 q) fun ws s3 ⟨zs, H3, I3, rz, l1, l2, q3⟩ => ⟨I3.kIn, ?_⟩
  rw [hks]
  exact run_X (us := [.ref a]) (vs := [.ref a]) F (hr.low hk) (b pt hpt) tkW I3 (.cons rfl .nil) rz l1 l2 q3
end
end Vx
/-! # lists within lists that are owned as a whole -/
namespace Vx
open PySem PySem.Spec PyProof.Rows L2
inductive Kd where
  | lst
  | tup
  | ins (C dx : Addr) (ns : List Str)
def Kd.ho : Kd → List V → HO
  | .lst, vs => .lst vs
  | .tup, vs => .tup vs
  | .ins C dx ns, vs => .ins C dx (ns.zip vs)
/-- what stands in the heap as a tree: values as they are, data that stay, nodes of its own -/
inductive Dt where
  | val (v : V)
  | frz (d : PyData)
  | nod (k : Kd) (xs : List Dt)
mutual
inductive Ow (G H : Hp) : List Addr → V → Dt → Prop
  | val (v : V) : Ow G H [] v (.val v)
  | frz {v : V} {d : PyData} : Rp G v d → Ow G H [] v (.frz d)
  | nod {a : Addr} {k : Kd} {vs : List V} {ds : List Dt} {L : List Addr} : H a = some (k.ho vs) → OwAll G H L vs ds → a ∉ L → Ow G H (a :: L) (.ref a) (.nod k ds)
inductive OwAll (G H : Hp) : List Addr → List V → List Dt → Prop
  | nil : OwAll G H [] [] []
  | cons {L1 L2 : List Addr} {v : V} {vs : List V} {d : Dt} {ds : List Dt} : Ow G H L1 v d → OwAll G H L2 vs ds → (∀ b ∈ L1, b ∉ L2) → OwAll G H (L1 ++ L2) (v :: vs) (d :: ds)
end
def Keeps (L : List Addr) (H H' : Hp) : Prop := ∀ b ∈ L, ∀ o, H b = some o → H' b = some o
mutual
theorem Ow.mono {G G' H H' : Hp} (e : Same G G') : ∀ {L : List Addr} {v : V} {d : Dt}, Keeps L H H' → Ow G H L v d → Ow G' H' L v d
  | _, _, _, _, .val v => .val v
  | _, _, _, _, .frz r => .frz (r.mono e)
  | _, _, _, k, .nod h r n => .nod (k _ List.mem_cons_self _ h) (OwAll.mono e (fun b hb => k b (List.mem_cons_of_mem _ hb)) r) n
theorem OwAll.mono {G G' H H' : Hp} (e : Same G G') : ∀ {L : List Addr} {vs : List V} {ds : List Dt}, Keeps L H H' → OwAll G H L vs ds → OwAll G' H' L vs ds
  | _, _, _, _, .nil => .nil
  | _, _, _, k, .cons a r d => .cons (Ow.mono e (fun b hb => k b (List.mem_append_left _ hb)) a) (OwAll.mono e (fun b hb => k b (List.mem_append_right _ hb)) r) d
end
mutual
theorem Ow.there {G H : Hp} : ∀ {L : List Addr} {v : V} {d : Dt}, Ow G H L v d → ∀ b ∈ L, H b ≠ none
  | _, _, _, .val _, _, hb => nomatch hb
  | _, _, _, .frz _, _, hb => nomatch hb
  | _, _, _, .nod h r n, b, hb => by
    rcases List.mem_cons.mp hb with rfl | hb
    · exact some_ne h
    · exact OwAll.there r b hb
theorem OwAll.there {G H : Hp} : ∀ {L : List Addr} {vs : List V} {ds : List Dt}, OwAll G H L vs ds → ∀ b ∈ L, H b ≠ none
  | _, _, _, .nil, _, hb => nomatch hb
  | _, _, _, .cons a r d, b, hb => by
    rcases List.mem_append.mp hb with hb | hb
    · exact Ow.there a b hb
    · exact OwAll.there r b hb
end
theorem OwAll.len {G H : Hp} : ∀ {L : List Addr} {vs : List V} {ds : List Dt}, OwAll G H L vs ds → vs.length = ds.length
  | _, _, _, .nil => rfl
  | _, _, _, .cons _ r _ => congrArg Nat.succ r.len
theorem OwAll.snoc {G H : Hp} {L1 : List Addr} {v : V} {d : Dt} (h : Ow G H L1 v d) : ∀ {L : List Addr} {vs : List V} {ds : List Dt}, OwAll G H L vs ds → (∀ b ∈ L, b ∉ L1) → OwAll G H (L ++ L1) (vs ++ [v]) (ds ++ [d])
  | _, _, _, .nil, _ => by
    have z : OwAll G H (L1 ++ []) [v] [d] := .cons h .nil (fun _ _ z => nomatch z)
    rw [List.append_nil] at z
    exact z
  | _, _, _, .cons (L1 := La) (L2 := Lb) a r n, k => by
    have z := OwAll.cons a (OwAll.snoc h r fun b hb => k b (List.mem_append_right _ hb)) (fun b hb q => by
      rcases List.mem_append.mp q with q | q
      · exact n b hb q
      · exact k b (List.mem_append_left _ hb) q)
    rw [← List.append_assoc] at z
    exact z
theorem OwAll.app {G H : Hp} {L2 : List Addr} {ws : List V} {es : List Dt} (h : OwAll G H L2 ws es) : ∀ {L : List Addr} {vs : List V} {ds : List Dt}, OwAll G H L vs ds → (∀ b ∈ L, b ∉ L2) → OwAll G H (L ++ L2) (vs ++ ws) (ds ++ es)
  | _, _, _, .nil, _ => h
  | _, _, _, .cons (L1 := La) (L2 := Lb) a r n, k => by
    have z := OwAll.cons a (OwAll.app h r fun b hb => k b (List.mem_append_right _ hb)) (fun b hb q => by
      rcases List.mem_append.mp q with q | q
      · exact n b hb q
      · exact k b (List.mem_append_left _ hb) q)
    rw [← List.append_assoc] at z
    exact z
/-! ### trees that are data -/
mutual
inductive Dd : Dt → PyData → Prop
  | non : Dd (.val .non) .none
  | bl (b : Bool) : Dd (.val (.bl b)) (.bool b)
  | int (i : Int) : Dd (.val (.int i)) (.int i)
  | str (x : Str) : Dd (.val (.str x)) (.str x)
  | frz (d : PyData) : Dd (.frz d) d
  | lst {xs : List Dt} {ds : List PyData} : DdAll xs ds → Dd (.nod .lst xs) (.list ds)
  | tup {xs : List Dt} {ds : List PyData} : DdAll xs ds → Dd (.nod .tup xs) (.tuple ds)
inductive DdAll : List Dt → List PyData → Prop
  | nil : DdAll [] []
  | cons {x : Dt} {xs : List Dt} {d : PyData} {ds : List PyData} : Dd x d → DdAll xs ds → DdAll (x :: xs) (d :: ds)
end
mutual
/-- read in any heap that holds its nodes -/
theorem Ow.rp {G H I : Hp} (e : Same G I) : ∀ {L : List Addr} {v : V} {d : Dt} {p : PyData}, Keeps L H I → Ow G H L v d → Dd d p → Rp I v p
  | _, _, _, _, _, .val _, .non => .non
  | _, _, _, _, _, .val _, .bl b => .bl b
  | _, _, _, _, _, .val _, .int i => .int i
  | _, _, _, _, _, .val _, .str x => .str x
  | _, _, _, _, _, .frz r, .frz _ => r.mono e
  | _, _, _, _, k, .nod h r _, .lst q => .lst (k _ List.mem_cons_self _ h) (OwAll.rp e (fun b hb => k b (List.mem_cons_of_mem _ hb)) r q)
  | _, _, _, _, k, .nod h r _, .tup q => .tup (k _ List.mem_cons_self _ h) (OwAll.rp e (fun b hb => k b (List.mem_cons_of_mem _ hb)) r q)
theorem OwAll.rp {G H I : Hp} (e : Same G I) : ∀ {L : List Addr} {vs : List V} {ds : List Dt} {ps : List PyData}, Keeps L H I → OwAll G H L vs ds → DdAll ds ps → RpAll I vs ps
  | _, _, _, _, _, .nil, .nil => .nil
  | _, _, _, _, k, .cons a r _, .cons x xs => .cons (Ow.rp e (fun b hb => k b (List.mem_append_left _ hb)) a x) (OwAll.rp e (fun b hb => k b (List.mem_append_right _ hb)) r xs)
end
def oI (i : Int) : Dt := .val (.int i)
def oB (b : Bool) : Dt := .val (.bl b)
def oF {α : Type} (f : α → PyData) (x : α) : Dt := .frz (f x)
def oL {α : Type} (f : α → Dt) (xs : List α) : Dt := .nod .lst (xs.map f)
def EncO {α : Type} (f : α → Dt) (g : α → PyData) : Prop := ∀ x, Dd (f x) (g x)
theorem encO_I : EncO oI PyData.int := fun i => .int i
theorem encO_B : EncO oB PyData.bool := fun i => .bl i
theorem encO_F {α : Type} {f : α → PyData} : EncO (oF f) f := fun _ => .frz _
theorem EncO.all {α : Type} {f : α → Dt} {g : α → PyData} (h : EncO f g) : ∀ xs : List α, DdAll (xs.map f) (xs.map g)
  | [] => .nil
  | x :: xs => .cons (h x) (EncO.all h xs)
theorem encO_L {α : Type} {f : α → Dt} {g : α → PyData} (h : EncO f g) : EncO (oL f) (encL g) := fun xs => .lst (h.all xs)
theorem keeps_same {L : List Addr} {H H' : Hp} (e : Same H H') : Keeps L H H' := fun b _ o q => e b o q
theorem keeps_refl {L : List Addr} {H : Hp} : Keeps L H H := fun _ _ _ q => q
theorem keeps_mut {L : List Addr} {H H' : Hp} {m : Addr} (x : SameX m H H') (n : ∀ b ∈ L, b ≠ m) : Keeps L H H' := fun b hb o q => x b o q (n b hb)
theorem keeps_muts {L M : List Addr} {H H' : Hp} (x : SameXs M H H') (n : ∀ b ∈ L, b ∉ M) : Keeps L H H' := fun b hb o q => x b o q (n b hb)
theorem keeps_hide {L M : List Addr} {H : Hp} (n : ∀ b ∈ L, b ∉ M) : Keeps L H (hideL M H) := fun b hb o q => by
  rw [hideL_out (n b hb)]
  exact q
section
variable {α : Type} {f : α → Dt} {g : α → PyData} {G H I : Hp} {L : List Addr} {vs : List V} {xs : List α}
theorem OwAll.rpA (w : OwAll G H L vs (xs.map f)) (h : EncO f g) (e : Same G H) : RpAll H vs (xs.map g) := OwAll.rp e keeps_refl w (h.all xs)
theorem OwAll.rpH (w : OwAll G H L vs (xs.map f)) (h : EncO f g) (e : Same G I) (k : Keeps L H I) : RpAll I vs (xs.map g) := OwAll.rp e k w (h.all xs)
theorem OwAll.lenM (w : OwAll G H L vs (xs.map f)) : vs.length = xs.length := by rw [w.len, List.length_map]
theorem OwAll.snocM {L1 : List Addr} {v : V} {y : α} (w : OwAll G H L vs (xs.map f)) (h : Ow G H L1 v (f y)) (n : ∀ b ∈ L, b ∉ L1) : OwAll G H (L ++ L1) (vs ++ [v]) ((xs ++ [y]).map f) := by
  rw [List.map_append]
  exact OwAll.snoc h w n
theorem Ow.ints {a : Addr} {ys : List Int} (h : H a = some (.lst (ys.map V.int))) : Ow G H [a] (.ref a) (oL oI ys) := by
  have z : ∀ ys : List Int, OwAll G H [] (ys.map V.int) (ys.map oI) := fun ys => by
    induction ys with
    | nil => exact .nil
    | cons y r ih => exact .cons (L1 := []) (L2 := []) (.val _) ih (fun _ z => nomatch z)
  exact .nod (k := .lst) h (z ys) (fun z => nomatch z)
theorem Ow.list {a : Addr} {xs : List α} {L : List Addr} {vs : List V} (h : H a = some (.lst vs)) (w : OwAll G H L vs (xs.map f)) (n : ∀ b ∈ L, b ≠ a) : Ow G H (a :: L) (.ref a) (oL f xs) := .nod (k := .lst) h w (fun z => n a z rfl)
theorem Ow.toList {v : V} {L : List Addr} {xs : List α} (w : Ow G H L v (oL f xs)) : ∃ a vs L', v = .ref a ∧ L = a :: L' ∧ H a = some (.lst vs) ∧ OwAll G H L' vs (xs.map f) ∧ ∀ b ∈ L', b ≠ a := by
  unfold oL at w
  cases w with
  | nod h r n => exact ⟨_, _, _, rfl, rfl, h, r, fun b hb z => n (z ▸ hb)⟩
theorem OwAll.toInts : ∀ {L : List Addr} {vs : List V} {xs : List Int}, OwAll G H L vs (xs.map oI) → L = [] ∧ vs = xs.map V.int
  | _, _, [], .nil => ⟨rfl, rfl⟩
  | _, _, x :: xs, .cons a r _ => by
    obtain ⟨h1, h2⟩ := OwAll.toInts r
    cases a
    exact ⟨by rw [h1] <;> rfl, by rw [h2] <;> rfl⟩
theorem Ow.toInts {v : V} {L : List Addr} {xs : List Int} (w : Ow G H L v (oL oI xs)) : ∃ a, v = .ref a ∧ L = [a] ∧ H a = some (.lst (xs.map V.int)) := by
  obtain ⟨a, vs, L', rfl, rfl, h, r, _⟩ := w.toList
  obtain ⟨rfl, rfl⟩ := r.toInts
  exact ⟨a, rfl, rfl, h⟩
/-- the part at a place, and how a change of it alone changes the whole -/
theorem OwAll.part : ∀ {L : List Addr} {vs : List V} {ds : List Dt} {i : Nat} {d : Dt}, OwAll G H L vs ds → ds[i]? = some d → ∃ v L1, vs[i]? = some v ∧ Ow G H L1 v d ∧ (∀ b ∈ L1, b ∈ L) ∧
    ∀ H' d', (∀ b ∈ L, b ∉ L1 → ∀ o, H b = some o → H' b = some o) → Ow G H' L1 v d' → OwAll G H' L vs (ds.set i d')
  | _, _, _, _, _, .nil, h => by simp at h
  | _, _, _, 0, _, .cons (L1 := La) (L2 := Lb) a r n, h => by
    simp at h
    subst h
    refine ⟨_, La, rfl, a, fun b hb => List.mem_append_left _ hb, fun H' d' k w => ?_⟩
    exact .cons w (OwAll.mono (Same.refl G) (fun b hb => k b (List.mem_append_right _ hb) fun z => n b z hb) r) n
  | _, _, _, i + 1, _, .cons (L1 := La) (L2 := Lb) a r n, h => by
    obtain ⟨v, L1, h1, h2, h3, h4⟩ := OwAll.part (i := i) r (by simpa using h)
    refine ⟨v, L1, by simpa using h1, h2, fun b hb => List.mem_append_right _ (h3 b hb), fun H' d' k w => ?_⟩
    refine .cons (Ow.mono (Same.refl G) (fun b hb => k b (List.mem_append_left _ hb) fun z => n b hb (h3 b z)) a) (h4 H' d' (fun b hb nb => k b (List.mem_append_right _ hb) nb) w) n
/-- the same, where the part grows: its new footprint is the old one and what is new -/
theorem OwAll.part2 : ∀ {L : List Addr} {vs : List V} {ds : List Dt} {i : Nat} {d : Dt}, OwAll G H L vs ds → ds[i]? = some d → ∃ v L1, vs[i]? = some v ∧ Ow G H L1 v d ∧ (∀ b ∈ L1, b ∈ L) ∧
    (∀ H' d', (∀ b ∈ L, b ∉ L1 → ∀ o, H b = some o → H' b = some o) → Ow G H' L1 v d' → OwAll G H' L vs (ds.set i d')) ∧
    ∀ H' d' Fv L1', (∀ b ∈ L, b ∉ L1 → ∀ o, H b = some o → H' b = some o) → (∀ b ∈ L1', b ∈ L1 ++ Fv) → (∀ b ∈ Fv, b ∉ L) → Ow G H' L1' v d' → ∃ L', (∀ b ∈ L', b ∈ L ++ Fv) ∧ OwAll G H' L' vs (ds.set i d')
  | _, _, _, _, _, .nil, h => by simp at h
  | _, _, _, 0, _, .cons (L1 := La) (L2 := Lb) a r n, h => by
    simp at h
    subst h
    refine ⟨_, La, rfl, a, fun b hb => List.mem_append_left _ hb, fun H' d' k w => ?_, fun H' d' Fv L1' k s nf w => ⟨L1' ++ Lb, fun b hb => ?_, ?_⟩⟩
    · exact .cons w (OwAll.mono (Same.refl G) (fun b hb => k b (List.mem_append_right _ hb) fun z => n b z hb) r) n
    · rcases List.mem_append.mp hb with hb | hb
      · rcases List.mem_append.mp (s b hb) with q | q
        · exact List.mem_append_left _ (List.mem_append_left _ q)
        · exact List.mem_append_right _ q
      · exact List.mem_append_left _ (List.mem_append_right _ hb)
    · refine .cons w (OwAll.mono (Same.refl G) (fun b hb => k b (List.mem_append_right _ hb) fun z => n b z hb) r) fun b hb q => ?_
      rcases List.mem_append.mp (s b hb) with z | z
      · exact n b z q
      · exact nf b z (List.mem_append_right _ q)
  | _, _, _, i + 1, _, .cons (L1 := La) (L2 := Lb) a r n, h => by
    obtain ⟨v, L1, h1, h2, h3, h4, h5⟩ := OwAll.part2 (i := i) r (by simpa using h)
    refine ⟨v, L1, by simpa using h1, h2, fun b hb => List.mem_append_right _ (h3 b hb), fun H' d' k w => ?_, fun H' d' Fv L1' k s nf w => ?_⟩
    · refine .cons (Ow.mono (Same.refl G) (fun b hb => k b (List.mem_append_left _ hb) fun z => n b hb (h3 b z)) a) (h4 H' d' (fun b hb nb => k b (List.mem_append_right _ hb) nb) w) n
    · obtain ⟨L', s2, z⟩ := h5 H' d' Fv L1' (fun b hb nb => k b (List.mem_append_right _ hb) nb) s (fun b hb q => nf b hb (List.mem_append_right _ q)) w
      refine ⟨La ++ L', fun b hb => ?_, .cons (Ow.mono (Same.refl G) (fun b hb => k b (List.mem_append_left _ hb) fun z => n b hb (h3 b z)) a) z fun b hb q => ?_⟩
      · rcases List.mem_append.mp hb with hb | hb
        · exact List.mem_append_left _ (List.mem_append_left _ hb)
        · rcases List.mem_append.mp (s2 b hb) with q | q
          · exact List.mem_append_left _ (List.mem_append_right _ q)
          · exact List.mem_append_right _ q
      · rcases List.mem_append.mp (s2 b q) with y | y
        · exact n b hb y
        · exact nf b y (List.mem_append_left _ hb)
theorem OwAll.partM [Inhabited α] {k : Int} (w : OwAll G H L vs (xs.map f)) (h : -(xs.length : Int) ≤ k ∧ k < xs.length) : ∃ v L1, atI vs k = some v ∧ Ow G H L1 v (f (itD xs k)) ∧ (∀ b ∈ L1, b ∈ L) ∧
    (∀ H' y, (∀ b ∈ L, b ∉ L1 → ∀ o, H b = some o → H' b = some o) → Ow G H' L1 v (f y) → OwAll G H' L vs ((setL xs k y).map f)) ∧
    ∀ H' y Fv L1', (∀ b ∈ L, b ∉ L1 → ∀ o, H b = some o → H' b = some o) → (∀ b ∈ L1', b ∈ L1 ++ Fv) → (∀ b ∈ Fv, b ∉ L) → Ow G H' L1' v (f y) → ∃ L', (∀ b ∈ L', b ∈ L ++ Fv) ∧ OwAll G H' L' vs ((setL xs k y).map f) := by
  obtain ⟨j, e, hj⟩ := ixN_some h
  have hx := List.getElem?_eq_getElem hj
  obtain ⟨v, L1, h1, h2, h3, h4, h5⟩ := OwAll.part2 (i := j) (d := f xs[j]) w (by rw [List.getElem?_map, hx] <;> rfl)
  have ei : itD xs k = xs[j] := by
    unfold itD atI
    rw [e]
    show (xs[j]?).getD default = _
    rw [hx] <;> rfl
  refine ⟨v, L1, ?_, by rw [ei]; exact h2, h3, fun H' y q w2 => ?_, fun H' y Fv L1' q s nf w2 => ?_⟩
  · unfold atI
    rw [w.lenM, e]
    exact h1
  · have z := h4 H' (f y) q w2
    unfold setL
    rw [e, List.map_set]
    exact z
  · obtain ⟨L', s2, z⟩ := h5 H' (f y) Fv L1' q s nf w2
    refine ⟨L', s2, ?_⟩
    unfold setL
    rw [e, List.map_set]
    exact z
theorem grow_keeps {L L1 : List Addr} {m : Addr} {H H1 H2 : Hp} (e : Same H H1) (x : SameX m H1 H2) (hm : m ∈ L1) : ∀ b ∈ L, b ∉ L1 → ∀ o, H b = some o → H2 b = some o := fun b _ n o q => x b o (e b o q) (fun z => n (z ▸ hm))
theorem grow_sub {a : Addr} {L' Lr Fv : List Addr} (h : ∀ b ∈ L', b ∈ Lr ++ Fv) : ∀ b ∈ a :: L', b ∈ (a :: Lr) ++ Fv := fun b hb => by
  rcases List.mem_cons.mp hb with rfl | hb
  · exact List.mem_cons_self
  · exact List.mem_cons_of_mem _ (h b hb)
/-- the item of a turn -/
theorem OwAll.turn {i : Nat} {v : V} (w : OwAll G H L vs (xs.map f)) (h : vs[i]? = some v) : ∃ x L1, xs[i]? = some x ∧ Ow G H L1 v (f x) ∧ ∀ b ∈ L1, b ∈ L := by
  have hl := get_len h
  have e := w.lenM
  have hx := List.getElem?_eq_getElem (show i < xs.length by omega)
  obtain ⟨v2, L1, h1, h2, h3, _⟩ := OwAll.part (i := i) (d := f xs[i]) w (by rw [List.getElem?_map, hx] <;> rfl)
  rw [h] at h1
  cases h1
  exact ⟨_, L1, hx, h2, h3⟩
end
/-! ### what is owned, in pieces -/
theorem all_app {P : Addr → Prop} {L l : List Addr} (h : ∀ x ∈ L, P x) (t : ∀ x ∈ l, P x) : ∀ x ∈ L ++ l, P x := fun x hx => by
  rcases List.mem_append.mp hx with q | q
  · exact h x q
  · exact t x q
theorem nm_nil {a : Addr} : a ∉ ([] : List Addr) := fun z => nomatch z
theorem nm_cons {a m : Addr} {l : List Addr} (h : a ≠ m) (t : a ∉ l) : a ∉ m :: l := fun z => by
  rcases List.mem_cons.mp z with q | q
  · exact h q
  · exact t q
theorem nm_app {a : Addr} {L l : List Addr} (h : a ∉ L) (t : a ∉ l) : a ∉ L ++ l := fun z => by
  rcases List.mem_append.mp z with q | q
  · exact h q
  · exact t q
theorem there_ne {H : Hp} {L : List Addr} {x : Addr} (t : ∀ b ∈ L, H b ≠ none) (n : H x = none) : ∀ b ∈ L, b ≠ x := fun b hb z => t b hb (z ▸ n)
theorem new_ne {H : Hp} {L : List Addr} {x : Addr} {o : HO} (n : ∀ b ∈ L, H b = none) (h : H x = some o) : ∀ b ∈ L, b ≠ x := fun b hb z => by
  have := n b hb
  rw [z, h] at this
  cases this
theorem new_nl {H : Hp} {L L2 : List Addr} (n : ∀ b ∈ L, H b = none) (t : ∀ b ∈ L2, H b ≠ none) : ∀ b ∈ L, b ∉ L2 := fun b hb z => t b z (n b hb)
theorem nl_symm {L L2 : List Addr} (h : ∀ b ∈ L, b ∉ L2) : ∀ b ∈ L2, b ∉ L := fun b hb z => h b z hb
theorem none_of_same {H H' : Hp} {x : Addr} (e : Same H H') (n : H' x = none) : H x = none := by
  cases q : H x with
  | none => rfl
  | some o =>
    rw [e x o q] at n
    cases n
section
variable {M : List Addr} {H0 G0 G H H' : Hp} {O L : List Addr} {p m : Addr} {o : HO}
theorem Sep.h0 (S : Sep M H0 G0 G H O) {b : Addr} (hb : b ∈ O) (hM : b ∉ M) : H0 b = none := (S.ow b hb).2.2.elim (fun z => (hM z).elim) id
theorem g_nl {a : Addr} {o : HO} (h : G a = some o) (S : Sep M H0 G0 G H O) (hL : ∀ b ∈ L, b ∈ O) : ∀ b ∈ L, b ≠ a := fun b hb => (g_ne h S (hL b hb)).symm
theorem b_nl {a : Addr} {o : HO} (h : (hideL M H0) a = some o) (S : Sep M H0 G0 G H O) (hL : ∀ b ∈ L, b ∈ O) : ∀ b ∈ L, b ≠ a := fun b hb => (b_ne h S (hL b hb)).symm
/-- a whole tree that is to stay as it is -/
theorem Sep.freezeL (S : Sep M H0 G0 G H O) {O' : List Addr} (hL : ∀ b ∈ L, b ∈ O) (h0 : ∀ b ∈ L, H0 b = none) (hO : ∀ b ∈ O', b ∈ O ∧ b ∉ L) : ∃ G', Same G G' ∧ Keeps L H G' ∧ Sep M H0 G0 G' H O' := by
  have gn : ∀ b ∈ L, G b = none := fun b hb => (S.ow b (hL b hb)).1
  refine ⟨fun b => if b ∈ L then H b else G b, fun b u q => ?_, fun b hb u q => ?_, S.base, S.pm, fun b u q => ?_, fun b u q => ?_, fun b hb gb => ?_, fun a ha => ?_⟩
  · have n : b ∉ L := fun z => by
      rw [gn b z] at q
      cases q
    show (if b ∈ L then H b else G b) = _
    rw [if_neg n]
    exact q
  · show (if b ∈ L then H b else G b) = _
    rw [if_pos hb]
    exact q
  · by_cases z : b ∈ L
    · exact (if_pos z).symm.trans q
    · exact S.sG b u ((if_neg z).symm.trans q)
  · have z : b ∉ L := fun z => by
      have := S.g0 b u q
      rw [gn b z] at this
      cases this
    show (if b ∈ L then H b else G b) = _
    rw [if_neg z]
    exact S.g0 b u q
  · have z : b ∉ L := fun z => hb (h0 b z)
    show (if b ∈ L then H b else G b) = _
    rw [if_neg z]
    exact S.gn b hb gb
  · obtain ⟨h1, h2⟩ := hO a ha
    refine ⟨?_, (S.ow a h1).2⟩
    show (if a ∈ L then H a else G a) = _
    rw [if_neg h2]
    exact (S.ow a h1).1
/-- a callee hands over a list of lists of its own making -/
theorem Sep.steptree (S : Sep M H0 G0 G H O) {G' : Hp} (e : Same H H') (eG : Same G G') (sG : Same G' H') (hn : ∀ b, H b ≠ none → G b = none → G' b = none) (L : List Addr) (hL : ∀ b ∈ L, H b = none ∧ G' b = none ∧ H' b ≠ none) : Sep M H0 G0 G' H' (L ++ O) := by
  have S2 := S.step e eG sG hn
  refine ⟨S2.base, S2.pm, S2.sG, S2.g0, S2.gn, all_app (fun b hb => ⟨(hL b hb).2.1, (hL b hb).2.2, .inr (S.free (hL b hb).1)⟩) S2.ow⟩
end
theorem Rp.list_of {α : Type} {g : α → PyData} {H : Hp} {a : Addr} {vs : List V} {xs : List α} (h : H a = some (.lst vs)) (r : RpAll H vs (xs.map g)) : Rp H (.ref a) (encL g xs) := .lst h r
/-! ### repr of data -/
mutual
def nodes : PyData → Nat
  | .list xs => 1 + nodesAll xs
  | .tuple xs => 1 + nodesAll xs
  | _ => 1
def nodesAll : List PyData → Nat
  | [] => 0
  | x :: xs => nodes x + nodesAll xs
end
mutual
def smallD : PyData → Bool
  | .none => true
  | .bool _ => true
  | .int i => decide (i.natAbs < 10 ^ 19)
  | .str x => decide ((reprText x).length ≤ 20)
  | .list xs => smallAll xs
  | .tuple xs => smallAll xs
  | _ => false
def smallAll : List PyData → Bool
  | [] => true
  | x :: xs => smallD x && smallAll xs
end
theorem piled_list (ts : List Str) : (listText ts).length ≤ piled ts + 2 := by
  cases ts with
  | nil => exact Nat.le_refl 2
  | cons t r =>
    have e : (listText (t :: r)).length = (textFrom 1 ("[" ++ ("" : String) ++ t) r).length + 1 := by
      show (textFrom 0 "[" (t :: r) ++ "]").length = _
      rw [strLen_append]
      rfl
    rw [e, textFrom_length_pos r 1 _ (by decide), piled_cons, strLen_append, strLen_append]
    have h1 : (("[" : String) : Str).length = 1 := rfl
    have h2 : (("" : String) : Str).length = 0 := rfl
    omega
theorem piled_tup (ts : List Str) : (tupleText ts).length ≤ piled ts + 3 := by
  unfold tupleText
  rw [strLen_append, strLen_append]
  have h1 : (("(" : String) : Str).length = 1 := rfl
  have h2 : (((if ts.length == 1 then ",)" else ")" : String) : Str)).length ≤ 2 := by split <;> decide
  by_cases h : ts = []
  · subst h
    exact Nat.le_of_lt (by decide)
  · have := join_length_add ts h
    omega
mutual
theorem small_shown : ∀ d : PyData, smallD d = true → d.shown.length + 4 ≤ 26 * nodes d ∧ d.showable = true ∧ d.hasDict = false
  | .none, _ => ⟨by simp only [PyData.shown, nodes]; decide, by simp [PyData.showable], by simp [PyData.hasDict]⟩
  | .bool b, _ => ⟨by cases b <;> simp only [PyData.shown, nodes] <;> decide, by simp [PyData.showable], by simp [PyData.hasDict]⟩
  | .int i, h => by
    have h : i.natAbs < 10 ^ 19 := by simpa [smallD] using h
    refine ⟨?_, ?_, by simp [PyData.hasDict]⟩
    · have := int_text_length_le10 (k := 19) (by decide) h
      simp only [PyData.shown, nodes]
      rw [PySem.ofString_length]
      omega
    · simp only [PyData.showable, decide_eq_true_eq]
      have : i.natAbs < 2 ^ 64 := by omega
      rcases Nat.eq_zero_or_pos i.natAbs with z | z
      · rw [z]
        decide
      · have := (Nat.log2_lt (by omega)).mpr this
        omega
  | .str x, h => by
    have h : (reprText x).length ≤ 20 := by simpa [smallD] using h
    refine ⟨by simp only [PyData.shown, nodes]; omega, by simp [PyData.showable], by simp [PyData.hasDict]⟩
  | .list xs, h => by
    obtain ⟨h1, h2, h3⟩ := small_shownAll xs (by simpa [smallD] using h)
    refine ⟨?_, by simpa [PyData.showable] using h2, by simpa [PyData.hasDict] using h3⟩
    have := piled_list (PyData.shownAll xs)
    simp only [PyData.shown, nodes]
    omega
  | .tuple xs, h => by
    obtain ⟨h1, h2, h3⟩ := small_shownAll xs (by simpa [smallD] using h)
    refine ⟨?_, by simpa [PyData.showable] using h2, by simpa [PyData.hasDict] using h3⟩
    have := piled_tup (PyData.shownAll xs)
    simp only [PyData.shown, nodes]
    omega
  | .dict kvs, h => by simp [smallD] at h
theorem small_shownAll : ∀ ds : List PyData, smallAll ds = true → piled (PyData.shownAll ds) ≤ 26 * nodesAll ds ∧ PyData.showableAll ds = true ∧ PyData.hasDictAll ds = false
  | [], _ => ⟨by simp [PyData.shownAll, nodesAll, piled], by simp [PyData.showableAll], by simp [PyData.hasDictAll]⟩
  | d :: ds, h => by
    have h : smallD d = true ∧ smallAll ds = true := by simpa [smallAll] using h
    obtain ⟨a1, a2, a3⟩ := small_shown d h.1
    obtain ⟨b1, b2, b3⟩ := small_shownAll ds h.2
    refine ⟨?_, by simp [PyData.showableAll, a2, b2], by simp [PyData.hasDictAll, a3, b3]⟩
    simp only [PyData.shownAll, nodesAll, piled_cons]
    omega
end
/-- data that repr may show -/
def ShowOk (d : PyData) : Prop := smallD d = true ∧ nodes d ≤ 600000 ∧ d.depth ≤ 60
instance (d : PyData) : Decidable (ShowOk d) := by unfold ShowOk; infer_instance
def rRepr : List V → Hp → VK → Prop := fun xs H Q => ∃ (a : Addr) (d : PyData), xs = [.ref a] ∧ Rp H (.ref a) d ∧ ShowOk d ∧ Q (.str d.shown) H
theorem call_reprD {X : Cx} (hg : X.A.guards = some []) (hu : X.A.units + 64 < cLine) : CallR X (.builtin "repr") rRepr := by
  intro pins s σ H xs us Q I r h
  obtain ⟨a, d, rfl, rp, ⟨ok, nd, dp⟩, q⟩ := h
  obtain ⟨h1, h2, h3⟩ := small_shown d ok
  cases r with
  | cons ra rn =>
    cases rn
    cases ra
    obtain ⟨as, reads⟩ := Dp.reads I d _ _ rp.dp rfl
    refine repr_of_reads' reads h2 (PyData.noDict_hsm h3) hg (by omega) (fun _ _ e => e) (fun h' u tk k => ⟨.str d.shown, H, I.kept k, ⟨u, rfl⟩, q⟩) ?_
    show d.shown.length ≤ 2 ^ 24
    omega
/-- small data: nodes, depth -/
def Sm (n k : Nat) (d : PyData) : Prop := smallD d = true ∧ nodes d ≤ n ∧ d.depth ≤ k
theorem Sm.imp {n k n' k' : Nat} {d : PyData} (h : Sm n k d) (a : n ≤ n') (b : k ≤ k') : Sm n' k' d := ⟨h.1, Nat.le_trans h.2.1 a, Nat.le_trans h.2.2 b⟩
theorem Sm.show {n k : Nat} {d : PyData} (h : Sm n k d) (a : n ≤ 600000 := by decide) (b : k ≤ 60 := by decide) : ShowOk d := h.imp a b
theorem sm_non : Sm 1 0 .none := ⟨by simp [smallD], by simp [nodes], by simp [PyData.depth]⟩
theorem sm_bool (b : Bool) : Sm 1 0 (.bool b) := ⟨by simp [smallD], by simp [nodes], by simp [PyData.depth]⟩
theorem sm_int {i : Int} (h : -10000000000000000000 < i ∧ i < 10000000000000000000) : Sm 1 0 (.int i) := ⟨by simp only [smallD, decide_eq_true_eq]; omega, by simp [nodes], by simp [PyData.depth]⟩
theorem sm_all {α : Type} {f : α → PyData} {n k : Nat} : ∀ {xs : List α}, (∀ x ∈ xs, Sm n k (f x)) → smallAll (xs.map f) = true ∧ nodesAll (xs.map f) ≤ xs.length * n ∧ PyData.depthAll (xs.map f) ≤ k
  | [], _ => ⟨by simp [smallAll], by simp [nodesAll], by simp [PyData.depthAll]⟩
  | x :: xs, h => by
    obtain ⟨a1, a2, a3⟩ := h x List.mem_cons_self
    obtain ⟨b1, b2, b3⟩ := sm_all fun y hy => h y (List.mem_cons_of_mem _ hy)
    refine ⟨by simp [smallAll, a1, b1], ?_, ?_⟩
    · simp only [List.map_cons, nodesAll, List.length_cons, Nat.succ_mul]
      omega
    · simp only [List.map_cons, PyData.depthAll]
      omega
theorem sm_L {α : Type} {f : α → PyData} {n k m : Nat} {xs : List α} (h : ∀ x ∈ xs, Sm n k (f x)) (hm : xs.length ≤ m) : Sm (1 + m * n) (k + 1) (encL f xs) := by
  obtain ⟨a1, a2, a3⟩ := sm_all h
  refine ⟨by simp [encL, smallD, a1], ?_, ?_⟩
  · have := Nat.mul_le_mul_right n hm
    simp only [encL, nodes]
    omega
  · simp only [encL, PyData.depth]
    omega
theorem sm_ints {xs : List Int} {m : Nat} (h : ∀ x ∈ xs, -10000000000000000000 < x ∧ x < 10000000000000000000) (hm : xs.length ≤ m) : Sm (1 + m * 1) 1 (encL PyData.int xs) := sm_L (fun x hx => sm_int (h x hx)) hm
theorem sm_T2 {α β : Type} {f : α → PyData} {g : β → PyData} {n k m j : Nat} {p : α × β} (h1 : Sm n k (f p.1)) (h2 : Sm m j (g p.2)) : Sm (1 + n + m) (max k j + 1) (encT2 f g p) := by
  obtain ⟨a1, a2, a3⟩ := h1
  obtain ⟨b1, b2, b3⟩ := h2
  refine ⟨by simp [encT2, smallD, smallAll, a1, b1], ?_, ?_⟩
  · simp only [encT2, nodes, nodesAll]
    omega
  · simp only [encT2, PyData.depth, PyData.depthAll]
    omega
theorem sm_T3 {α β γ : Type} {f : α → PyData} {g : β → PyData} {h : γ → PyData} {n k m j l i : Nat} {p : α × β × γ} (h1 : Sm n k (f p.1)) (h2 : Sm m j (g p.2.1)) (h3 : Sm l i (h p.2.2)) : Sm (1 + n + m + l) (max k (max j i) + 1) (encT3 f g h p) := by
  obtain ⟨a1, a2, a3⟩ := h1
  obtain ⟨b1, b2, b3⟩ := h2
  obtain ⟨c1, c2, c3⟩ := h3
  refine ⟨by simp [encT3, smallD, smallAll, a1, b1, c1], ?_, ?_⟩
  · simp only [encT3, nodes, nodesAll]
    omega
  · simp only [encT3, PyData.depth, PyData.depthAll]
    omega
end Vx
namespace Vx
open PySem PySem.Spec PyProof.Rows L2
theorem new_ne2 {H : Hp} {L : List Addr} {x : Addr} (n : ∀ b ∈ L, H b = none) (h : H x ≠ none) : ∀ b ∈ L, b ≠ x := fun b hb z => h (z ▸ n b hb)
theorem upd_tree {α : Type} {f : α → Dt} {G H H' : Hp} {L L1 : List Addr} {vs : List V} {xs : List α} {k : Int} {v : V} {m : Addr} {y : α} (up : ∀ H' y, (∀ b ∈ L, b ∉ L1 → ∀ o, H b = some o → H' b = some o) → Ow G H' L1 v (f y) → OwAll G H' L vs ((setL xs k y).map f)) (x : SameX m H H') (hm : m ∈ L1) (w : Ow G H' L1 v (f y)) :
    OwAll G H' L vs ((setL xs k y).map f) := up H' y (fun c _ n o q => x c o q (fun z => n (z ▸ hm))) w
theorem Ow.toFrz {α : Type} {f : α → PyData} {G H : Hp} {L : List Addr} {v : V} {x : α} (w : Ow G H L v (oF f x)) : L = [] ∧ Rp G v (f x) := by
  unfold oF at w
  cases w with
  | frz r => exact ⟨rfl, r⟩
section
variable {α : Type} {f : α → Dt} {G H : Hp} {L : List Addr} {vs : List V} {xs : List α}
theorem OwAll.pin {i : Nat} {v : V} {x : α} (w : OwAll G H L vs (xs.map f)) (h : vs[i]? = some v) (hx : xs[i]? = some x) : ∃ L1, Ow G H L1 v (f x) ∧ ∀ b ∈ L1, b ∈ L := by
  obtain ⟨y, L1, h1, h2, h3⟩ := OwAll.turn w h
  rw [hx] at h1
  cases h1
  exact ⟨L1, h2, h3⟩
theorem OwAll.pinInts {i : Nat} {b : Addr} {xs : List (List Int)} {x : List Int} (w : OwAll G H L vs (xs.map (oL oI))) (h : vs[i]? = some (.ref b)) (hx : xs[i]? = some x) : H b = some (.lst (x.map V.int)) ∧ b ∈ L := by
  obtain ⟨L1, w1, h1⟩ := OwAll.pin w h hx
  obtain ⟨c, e, rfl, h2⟩ := Ow.toInts w1
  cases e
  exact ⟨h2, h1 _ List.mem_cons_self⟩
end
end Vx
namespace Vx
open PySem PySem.Spec PyProof.Rows L2
theorem lookup_relab {c : Str → Bool} {y : Str} : ∀ l : List (Str × NameKind), (l.lookup y = some .cell ∨ l.lookup y = some .free) →
    ((l.map fun (n, k) => if (k == .free && c n) then (n, NameKind.cell) else (n, k)).lookup y = some .cell ∨ (l.map fun (n, k) => if (k == .free && c n) then (n, NameKind.cell) else (n, k)).lookup y = some .free)
  | [], h => by simp at h
  | (n, k) :: r, h => by
    rw [List.map_cons]
    dsimp only
    by_cases e : y == n
    · have hk : k = .cell ∨ k = .free := by
        rw [List.lookup_cons, e] at h
        simpa using h
      by_cases q : (k == .free && c n) = true
      · left
        rw [if_pos q, List.lookup_cons, e]
      · rw [if_neg q, List.lookup_cons, e]
        simpa using hk
    · have e : (y == n) = false := by simpa using e
      rw [List.lookup_cons, e] at h
      have ih := lookup_relab (c := c) r h
      by_cases q : (k == .free && c n) = true
      · rw [if_pos q, List.lookup_cons, e]
        exact ih
      · rw [if_neg q, List.lookup_cons, e]
        exact ih
theorem blk_relabel {N : List Str} {sc scope : Scope} {env : Env} {own : List (Str × Nat)} (h : BlkOk N sc scope own) : BlkOk N (relabel sc env) scope own := by
  refine ⟨h.kind, h.uniq, h.ix, fun y hy e => ?_, h.own⟩
  have z := lookup_relab (c := fun n => env.scope.kind == .function && env.kindOf n == some .cell) (y := y.1) sc.names (h.free y hy e)
  unfold relabel
  simpa only [Bool.and_assoc] using z
end Vx
namespace Vx
open PySem PySem.Spec PyProof.Rows L2
theorem FnG.low {P : Program} {w : World} {K : PySem.W.Frag} {mg : Str → Option Value} {base : Heap} {cx : CXT} {j k : Nat} {f : Addr} {fd : FuncData} {ps : List Str} {sp : Sp} (F : FnG P w K mg base cx j f fd ps sp) (h : j ≤ k) : FnG P w K mg base cx k f fd ps sp := ⟨F.len, fun A o s H a us vs Q E r => F.run A o s H a us vs Q E (r.low h)⟩
/-! ### a local name that holds one of several defs -/
structure HeldX (P : Program) (w : World) (K : PySem.W.Frag) (mg : Str → Option Value) (base : Heap) (k n : Nat) (f : Addr) (sp : Sp) : Prop where
  ex : ∃ (fd : FuncData) (ps : List Str), FnG P w K mg base (L2.CX P w) k f fd ps sp ∧ PySem.W.keepIn K (.ref f) = true ∧ Bnd K fd ps n [] (fun vs _ => vs)
theorem HeldX.of {P : Program} {w : World} {K : PySem.W.Frag} {mg : Str → Option Value} {base : Heap} {j k n : Nat} {x : Str} {sp : Sp} {pats : List Pat} {a : Addr} (c : CalX P w K mg base j x sp pats) (hx : mg x = some (.ref a)) (hp : (n, [], fun vs _ => vs) ∈ pats) (hj : j ≤ k) : HeldX P w K mg base k n a sp := by
  obtain ⟨f, fd, ps, F, hm, kp, b⟩ := c.ex
  rw [hx] at hm
  injection hm with hm
  injection hm with hm
  subst hm
  exact ⟨fd, ps, F.low hj, kp, b _ hp⟩
def tCallF (i n : Nat) (L : List (Addr × Sp)) (W : WX) (t : TA) : TE := fun σ H Q => ∃ f sp, σ[i]? = some (some (.ref f)) ∧ (f, sp) ∈ L ∧ t σ H fun vs H1 => vs.length = n ∧ ([] : List V).length = 0 ∧ sp vs H1 Q (WE W σ)
theorem vx_callF {X : Cx} {k j i n : Nat} {x : Str} {p pos : Pos} {e : Expr} {es : List Expr} {t : TA} {W : WX} (L : List (Addr × Sp)) (A : ∀ q ∈ L, HeldX X.prog X.w X.K X.mg X.base k n q.1 q.2) (hr : RoomG j X.A) (hk : k ≤ j) (tkW : Takes X W) (hN : X.N[i]? = some x) (hv : Vis X.env.scope x) (ha : PA X (e :: es) t)
    (hdb : (x == ("__debug__" : Str)) = false := by decide) (hcd : (x == ("__classdict__" : Str)) = false := by decide) (he : starEach (e :: es) X.env = (false, eval e X.env) :: starEach es X.env := by rfl) (hpl : (backTo pos (starEach es X.env)).any (·.1) = false := by rfl) :
    PE X (.Call (.Name x p) (e :: es) [] pos) (tCallF i n L W t) := by
  constructor
  intro pins s σ H Q I h
  obtain ⟨f, sp, slot, mem, rest⟩ := h
  obtain ⟨fd, ps, F, kp, b⟩ := (A _ mem).ex
  refine wpAny_Call_Name_kw (thn ((pe_var (pos := p) hN hv hdb hcd).run pins s σ H (fun v H1 => v = .ref f ∧ H1 = H) I ⟨.ref f, slot, rfl, rfl⟩) ?_)
  rintro u s1 ⟨v, H1, I1, r1, rfl, rfl⟩
  cases r1
  refine PySem.W.callWith_K (h₀ := X.base) I.ok.mod.kin kp (thn (ha.run pos pins s1 σ _ _ I1 rest) ?_) he hpl
  rintro us s2 ⟨vs, H2, I2, r, l1, l2, q⟩
  exact ⟨I2.kIn, run_X (us := us) (ws := []) (zs := []) F (hr.low hk) b tkW I2 r .nil l1 l2 q⟩
/-! ### the least of a list, the place of an item -/
def minL : List Int → Int
  | [] => 0
  | [x] => x
  | x :: y :: r => if x ≤ minL (y :: r) then x else minL (y :: r)
theorem minL_spec : ∀ (xs : List Int), xs ≠ [] → minL xs ∈ xs ∧ ∀ y ∈ xs, minL xs ≤ y
  | [], h => absurd rfl h
  | [x], _ => ⟨List.mem_cons_self, fun y hy => by rw [List.mem_singleton.mp hy]; exact Int.le_refl x⟩
  | x :: y :: r, _ => by
    obtain ⟨h1, h2⟩ := minL_spec (y :: r) (fun z => nomatch z)
    unfold minL
    split
    · refine ⟨List.mem_cons_self, fun z hz => ?_⟩
      rcases List.mem_cons.mp hz with rfl | hz
      · exact Int.le_refl _
      · have := h2 z hz
        omega
    · refine ⟨List.mem_cons_of_mem _ h1, fun z hz => ?_⟩
      rcases List.mem_cons.mp hz with rfl | hz
      · omega
      · exact h2 z hz
def maxL (xs : List Int) : Int := -(minL (xs.map fun x => -x))
theorem maxL_spec (xs : List Int) (h : xs ≠ []) : maxL xs ∈ xs ∧ ∀ y ∈ xs, y ≤ maxL xs := by
  obtain ⟨h1, h2⟩ := minL_spec (xs.map fun x => -x) (by simpa using h)
  obtain ⟨z, hz, e⟩ := List.mem_map.mp h1
  unfold maxL
  refine ⟨by rw [← e, Int.neg_neg]; exact hz, fun y hy => ?_⟩
  have := h2 _ (List.mem_map_of_mem hy)
  omega
section
variable {X : Cx} {K : PySem.W.Frag}
def rMinL (K : PySem.W.Frag) : List V → Hp → VK → Prop := fun vs H Q => ∃ (a : Addr) (ns : List Int), vs = [V.ref a] ∧ SqL K H a (ns.map V.int) ∧ ns ≠ [] ∧ Q (.int (minL ns)) H
def rMaxL (K : PySem.W.Frag) : List V → Hp → VK → Prop := fun vs H Q => ∃ (a : Addr) (ns : List Int), vs = [V.ref a] ∧ SqL K H a (ns.map V.int) ∧ ns ≠ [] ∧ Q (.int (maxL ns)) H
theorem cr_minL (hc : X.calm = true) (hK : X.K = K := by rfl) : CallR X (.builtin "min") (rMinL K) := by
  subst hK
  intro pins s σ H vs us Q I r h
  obtain ⟨a, ns, rfl, hs, hn, q⟩ := h
  refine cr_min hc pins s σ H _ us Q I r ⟨a, ns, rfl, hs, List.length_pos_iff.mpr hn, fun m hm hle => ?_⟩
  obtain ⟨h1, h2⟩ := minL_spec ns hn
  have e : m = minL ns := Int.le_antisymm (by have := hle _ h1; omega) (h2 m hm)
  rw [e]
  exact q
theorem cr_maxL (hc : X.calm = true) (hK : X.K = K := by rfl) : CallR X (.builtin "max") (rMaxL K) := by
  subst hK
  intro pins s σ H vs us Q I r h
  obtain ⟨a, ns, rfl, hs, hn, q⟩ := h
  refine cr_max hc pins s σ H _ us Q I r ⟨a, ns, rfl, hs, List.length_pos_iff.mpr hn, fun m hm hle => ?_⟩
  obtain ⟨h1, h2⟩ := maxL_spec ns hn
  have e : m = maxL ns := Int.le_antisymm (h2 m hm) (by have := hle _ h1; omega)
  rw [e]
  exact q
end
end Vx
namespace Vx
open PySem PySem.Spec PyProof.Rows L2
def idxL (ns : List Int) (i : Int) : Int := (ns.idxOf i : Nat)
def rIndexI (K : PySem.W.Frag) : V → List V → Hp → VK → Prop := fun x xs H Q => ∃ (a : Addr) (ns : List Int) (i : Int), x = V.ref a ∧ xs = [.int i] ∧ SqL K H a (ns.map V.int) ∧ i ∈ ns ∧ Q (.int (idxL ns i)) H
theorem mt_indexI {X : Cx} {K : PySem.W.Frag} (hK : X.K = K := by rfl) : MtR X "list.index" (rIndexI K) := by
  subst hK
  intro pins s σ H x xs v us Q I rx rxs h
  obtain ⟨a, ns, i, rfl, rfl, hs, hi, q⟩ := h
  have hl := List.idxOf_lt_length_of_mem hi
  refine mt_index pins s σ H _ _ v us Q I rx rxs ⟨a, _, .int i, ns.idxOf i, .int i, rfl, rfl, hs, rfl, flat_ints ns, ?_, by simp [eqV], fun m z hm hz => ?_, q⟩
  · rw [List.getElem?_map, List.getElem?_eq_getElem hl, List.getElem_idxOf hl] <;> rfl
  · rw [List.getElem?_map] at hz
    cases e : ns[m]? with
    | none => rw [e] at hz; cases hz
    | some y =>
      rw [e] at hz
      cases hz
      have hml : m < ns.length := by omega
      have hy : ns[m] = y := by
        rw [List.getElem?_eq_getElem hml] at e
        exact Option.some.inj e
      have := List.not_of_lt_findIdx (p := (· == i)) (xs := ns) (i := m) hm
      simp only [beq_iff_eq, hy] at this
      simp [eqV, this]
theorem cW_aftgo {σ ρ τ : Type} {s : σ} {kr : ρ → Rx τ} {k : σ → Rx τ} {K : τ → Prop} {E : Nat → Prop} (h : cW ((Lp.go s : Lp σ ρ).aft kr k) K E) : cW (k s) K E := h
end Vx
namespace Vx
open PySem PySem.Spec PyProof.Rows L2
/-! ### a truth value or a number beside a number -/
def Bi.num : Bi → Int
  | .b x => if x then 1 else 0
  | .n i => i
def Bi.dat : Bi → PyData
  | .b x => .bool x
  | .n i => .int i
section
variable {X : Cx}
def rEqBI : R2 := fun x y H Q => ∃ (b : Bi) (i : Int), x = biV b ∧ y = .int i ∧ Q (.bl (decide (b.num = i))) H
def rNeBI : R2 := fun x y H Q => ∃ (b : Bi) (i : Int), x = biV b ∧ y = .int i ∧ Q (.bl (!decide (b.num = i))) H
theorem eqv_bi (b : Bi) (i : Int) : PyData.eqv b.dat (.int i) = decide (b.num = i) := by
  cases b with
  | b x => cases x <;> (rw [Bool.eq_iff_iff]; simp [Bi.dat, Bi.num, PyData.eqv])
  | n j =>
    rw [Bool.eq_iff_iff]
    simp only [Bi.dat, Bi.num, PyData.eqv, beq_iff_eq]
    exact decide_eq_true_iff.symm
theorem dp_bi {K : PySem.W.Frag} {H : Hp} : ∀ b : Bi, Dp K H (biV b) b.dat
  | .b x => .bl x
  | .n i => .int i
theorem shaped_bi : ∀ b : Bi, SeqAt.shaped b.dat = true
  | .b x => by unfold SeqAt.shaped; simp [Bi.dat, PyData.canLay0, PyData.depth]
  | .n i => by unfold SeqAt.shaped; simp [Bi.dat, PyData.canLay0, PyData.depth]
theorem op_eqBI (hu : X.A.units + 64 < cLine) : OpR X (compareOp .Eq) rEqBI := by
  intro pins s σ H x y v u Q I rx ry h
  obtain ⟨b, i, rfl, rfl, q⟩ := h
  exact op_eqD hu pins s σ H _ _ v u Q I rx ry ⟨b.dat, .int i, dp_bi b, .int i, shaped_bi b, shaped_bi (.n i), by rw [eqv_bi]; exact q⟩
theorem op_neBI (hu : X.A.units + 64 < cLine) : OpR X (compareOp .NotEq) rNeBI := by
  intro pins s σ H x y v u Q I rx ry h
  obtain ⟨b, i, rfl, rfl, q⟩ := h
  exact op_neD hu pins s σ H _ _ v u Q I rx ry ⟨b.dat, .int i, dp_bi b, .int i, shaped_bi b, shaped_bi (.n i), by rw [eqv_bi]; exact q⟩
end
end Vx
namespace Vx
open PySem PySem.Spec PyProof.Rows L2
/-! ### == of own objects by an own __eq__ that never raises -/
section
variable {X : Cx} {k j : Nat}
def rEqX (C : Addr) (n mm : Nat) (sp : Sp) (g : List V → List V → List V) : R2 := fun x y H Q => ∃ (a b dx dy : Addr) (fs gs : List (Str × V)), x = .ref a ∧ y = .ref b ∧ H a = some (.ins C dx fs) ∧ H b = some (.ins C dy gs) ∧ 2 = n ∧ 0 = mm ∧ sp (g [x, y] []) H (fun v H' => (∃ r, v = .bl r) ∧ Q v H') E0
theorem op_eqX {C : Addr} {sp : Sp} {pats : List Pat} (c : MetX X.prog X.w X.K X.mg X.base k C "__eq__" sp pats) (pt : Pat) (hpt : pt ∈ pats) (hr : RoomG j X.A) (hk : k ≤ j) (hks : pt.2.1 = [] := by rfl) : OpR X (compareOp .Eq) (rEqX C pt.1 pt.2.1.length sp pt.2.2) := by
  intro pins s σ H x y v u Q I rx ry hq
  obtain ⟨a, b, dx, dy, fs, gs, rfl, rfl, ha, hb', l1, l2, q⟩ := hq
  obtain ⟨f, fd, ps, hc, hm, F, bb⟩ := c.ex
  cases rx
  cases ry
  obtain ⟨mA, J, _⟩ := ins_get I.hok ha
  obtain ⟨mB, J', _⟩ := ins_get I.hok hb'
  obtain ⟨od, J, _⟩ := J.look
  obtain ⟨od', J', _⟩ := J'.look
  obtain ⟨m, hF⟩ := I.fr
  have hz := run_X (us := [.ref a, .ref b]) (vs := [.ref a, .ref b]) (ws := []) (zs := []) F (hr.low hk) (bb pt hpt) (takes0 (X := X)) I (.cons rfl (.cons rfl .nil)) .nil l1 l2 q
  rw [hks] at hz
  show wpAny (model X.prog X.w) X.A (richCompare .Eq (.ref a) (.ref b)) (EP X pins σ Q) X.xe s
  refine PySem.W.cmp_K (op := .Eq) (tb := .ref C) (hr.low hk).toRoom.units0 hF I.ok.mod.kin J J'.type (by simp [PySem.W.notFirst]) hm.at_ hm.fn ?_
  refine wpAny_mono hz (fun r s' z => ?_) fun _ _ e => e
  obtain ⟨w, H', I', rw', ⟨⟨q1, rfl⟩, q2⟩⟩ := z
  cases rw'
  exact ⟨V.bl q1, H', I', rfl, q2⟩
end
end Vx
namespace Vx
open PySem PySem.Spec PyProof.Rows L2
/-! ### isinstance of the exception in hand: a built-in class, a tuple of classes -/
theorem kit_blt {K : PySem.W.Frag} {D : Addr} {T : String} {b : Bool} (h : PySem.W.subIn K (.ref D) (.type T) = some b) (h0 : PySem.W.kitMeta T = true := by decide +kernel) : PySem.W.kitOne K (.ref D) (.type T) = some b := by
  unfold PySem.W.kitOne
  rw [if_neg (show ¬ (Value.ref D == Value.type T) = true from fun z => nomatch (show false = true from z))]
  show (if PySem.W.kitMeta T = true then PySem.W.subIn K (.ref D) (.type T) else none) = some b
  rw [if_pos h0, h]
def rIsXB (K : PySem.W.Frag) (a : Addr) (cls : Value) (d : Option Addr) : List V → Hp → VK → Prop := fun xs H Q => ∃ (D : Addr) (T : String) (b : Bool), cls = .ref D ∧ d = none ∧ ExcC K D ∧ xs = [.ref a, .ty T] ∧ PySem.W.kitOne K (.ref D) (.type T) = some b ∧ Q (.bl b) H
theorem call_isXB {X : Cx} {K : PySem.W.Frag} {a : Addr} {cls : Value} {d : Option Addr} {oe : Obj} {pn : List (Addr × Obj)} (hz : Zc cls d oe) (hf : ∃ vs, oe.data = .fields vs) (hK : X.K = K := by rfl) : CallR (X.suite a ((a, oe) :: pn)) (.builtin "isinstance") (rIsXB K a cls d) := by
  subst hK
  intro pins s σ H xs us Q I r h
  obtain ⟨D, T, b, rfl, rfl, c, rfl, e, q⟩ := h
  exact call_isE c hz hf pins s σ H _ us Q I r ⟨_, _, b, rfl, fun u z => z, e, q⟩
def rIsXT (K : PySem.W.Frag) (a : Addr) (cls : Value) (d : Option Addr) : List V → Hp → VK → Prop := fun xs H Q => ∃ (D tp : Addr) (cs : List V) (ws : List Value) (b : Bool), cls = .ref D ∧ d = none ∧ ExcC K D ∧ xs = [.ref a, .ref tp] ∧ H tp = some (.tup cs) ∧ Paired ClsV cs ws ∧ PySem.W.kitAny K (.ref D) ws = some b ∧ Q (.bl b) H
theorem call_isXT {X : Cx} {K : PySem.W.Frag} {a : Addr} {cls : Value} {d : Option Addr} {oe : Obj} {pn : List (Addr × Obj)} (hz : Zc cls d oe) (hf : ∃ vs, oe.data = .fields vs) (hK : X.K = K := by rfl) : CallR (X.suite a ((a, oe) :: pn)) (.builtin "isinstance") (rIsXT K a cls d) := by
  subst hK
  intro pins s σ H xs us Q I r h
  obtain ⟨D, tp, cs, ws, b, rfl, rfl, C, rfl, hT, k, e, q⟩ := h
  cases r with
  | cons rx rr =>
    cases rr with
    | cons rt rr =>
      cases rr
      cases rx
      cases rt
      obtain ⟨hget, _⟩ := I.pin (a, oe) (List.mem_append.mpr (.inl List.mem_cons_self))
      obtain ⟨vs, hv⟩ := hf
      have J : PySem.W.InstAt s.heap a oe D none := by
        obtain ⟨oc, od, oda, osl⟩ := oe
        obtain ⟨h1, h2⟩ := hz
        dsimp only at h1 h2 hv
        subst h1 h2 hv
        exact ⟨hget, rfl, rfl, trivial⟩
      obtain ⟨_, its, rv, o, h1, h2, n, h3⟩ := (show ObjOk X.prog X.w H s.heap tp (.tup cs) from I.hok tp _ hT)
      have e3 := ClsV.all k rv
      subst e3
      obtain ⟨oc, od, dt, sl⟩ := o
      simp only at h2 h3
      subst h2 h3
      exact PySem.W.kia_tup (PySem.W.handS_kitx_exc C.hg C.hk C.hs C.hd C.ha C.hn C.ht C.hm) I.kIn J h1 e (fun z => nomatch z) fun tk => ⟨.bl b, H, I.kept (t' := tk) fun _ _ z => z, rfl, q⟩
theorem kit_self {K : PySem.W.Frag} {t : Value} (h : (t == t) = true := by simp) : PySem.W.kitOne K t t = some true := by
  unfold PySem.W.kitOne
  rw [if_pos h]
/-- what a class must say, so that isinstance asks its objects rightly -/
structure IsiC (K : PySem.W.Frag) (C : Addr) : Prop where
  ha : PySem.W.findIn K (.ref C) "__class__" = some (some (.builtin "object.__class__"))
  hn : PySem.W.specialIn K (.builtin "object.__class__") "__get__" = some (some (.builtin "getset_descriptor.__get__"))
  ht : PySem.W.takesIn K (.builtin "object.__class__") = some true
  hm : PySem.W.mroIn K C (.type "object") = some true
theorem tyX_ins {K : PySem.W.Frag} {H : Hp} {a C dx : Addr} {fs : List (Str × V)} (e : H a = some (.ins C dx fs)) (cl : Cls K C) (c : IsiC K C) : TyX K H (.ref a) (.ref C) := .base (.ins e cl c.ha c.hn c.ht c.hm)
end Vx
namespace Vx
open PySem PySem.Spec PyProof.Rows L2
theorem op_notTrue {X : Cx} : OpR X (compareOp .IsNot) (fun x y H Q => ∃ b : Bool, x = .bl b ∧ y = .bl true ∧ Q (.bl (!b)) H) := by
  intro pins s σ H x y v u Q I rx ry h
  obtain ⟨b, rfl, rfl, q⟩ := h
  cases rx
  cases ry
  show wpAny (model X.prog X.w) X.A (compareOp .IsNot (.bool b) (.bool true)) (EP X pins σ Q) X.xe s
  have e : compareOp .IsNot (.bool b) (.bool true) = pure (.bool (!b)) := by cases b <;> rfl
  rw [e]
  exact wpAny_pure ⟨.bl (!b), H, I, rfl, q⟩
end Vx
/-! # lists stored into trees -/
namespace Vx
open PySem PySem.Spec PyProof.Rows L2
section
variable {G H I : Hp} {α : Type} {f : α → Dt} {L : List Addr} {vs : List V} {xs : List α}
theorem OwAll.set {L1 : List Addr} {v : V} {d : Dt} (h : Ow G H L1 v d) : ∀ {L : List Addr} {vs : List V} {ds : List Dt} (i : Nat), i < ds.length → OwAll G H L vs ds → (∀ b ∈ L1, b ∉ L) → ∃ L', (∀ b ∈ L', b ∈ L ++ L1) ∧ OwAll G H L' (vs.set i v) (ds.set i d)
  | _, _, _, _, hi, .nil, _ => absurd hi (Nat.not_lt_zero _)
  | _, _, _, 0, _, .cons (L1 := La) (L2 := Lb) a r n, nf => by
    refine ⟨L1 ++ Lb, fun b hb => ?_, .cons h r fun b hb q => nf b hb (List.mem_append_right _ q)⟩
    rcases List.mem_append.mp hb with q | q
    · exact List.mem_append_right _ q
    · exact List.mem_append_left _ (List.mem_append_right _ q)
  | _, _, _, i + 1, hi, .cons (L1 := La) (L2 := Lb) a r n, nf => by
    obtain ⟨L', s, w⟩ := OwAll.set h i (Nat.lt_of_succ_lt_succ hi) r fun b hb q => nf b hb (List.mem_append_right _ q)
    refine ⟨La ++ L', fun b hb => ?_, .cons a w fun b hb q => ?_⟩
    · rcases List.mem_append.mp hb with q | q
      · exact List.mem_append_left _ (List.mem_append_left _ q)
      · rcases List.mem_append.mp (s b q) with z | z
        · exact List.mem_append_left _ (List.mem_append_right _ z)
        · exact List.mem_append_right _ z
    · rcases List.mem_append.mp (s b q) with z | z
      · exact n b hb z
      · exact nf b z (List.mem_append_left _ hb)
theorem ixN_len {k : Int} (e : vs.length = xs.length) (h : -(xs.length : Int) ≤ k ∧ k < xs.length) : ixN vs.length k = some ((ixN vs.length k).getD 0) := by
  rw [e]
  obtain ⟨j, hj, _⟩ := ixN_some h
  rw [hj]
  rfl
theorem OwAll.setM {k : Int} {L1 : List Addr} {v : V} {y : α} (w : OwAll G H L vs (xs.map f)) (h : -(xs.length : Int) ≤ k ∧ k < xs.length) (ow : Ow G H L1 v (f y)) (n : ∀ b ∈ L1, b ∉ L) :
    ∃ L', (∀ b ∈ L', b ∈ L ++ L1) ∧ OwAll G H L' (vs.set ((ixN vs.length k).getD 0) v) ((setL xs k y).map f) := by
  obtain ⟨j, e, hj⟩ := ixN_some h
  obtain ⟨L', s, z⟩ := OwAll.set ow j (by simpa using hj) w n
  refine ⟨L', s, ?_⟩
  unfold setL
  rw [w.lenM, e, List.map_set]
  exact z
end
theorem ne_of_len {α : Type} {xs : List α} (h : xs.length = 4 ∨ xs.length = 6 ∨ xs.length = 8) : xs ≠ [] := by
  rintro rfl
  simp at h
end Vx
namespace Vx
open PySem PySem.Spec PyProof.Rows L2
/-! ### written dicts of ints -/
inductive EI : List (Int × Int) → List DictEntry → Prop
  | nil : EI [] []
  | cons {k v : Int} {t u : Tok} {r : List (Int × Int)} {es : List DictEntry} (h : EI r es) : EI ((k, v) :: r) (⟨hashInt k, .int k t, .int v u⟩ :: es)
def lookI : List (Int × Int) → Int → Option Int
  | [], _ => none
  | (k, v) :: r, i => if i = k then some v else lookI r i
def KDI (K : PySem.W.Frag) (a : Addr) (kvs : List (Int × Int)) : Prop :=
  ∃ es n, K.lookup a = some ⟨.type "dict", none, .dict es n, #[]⟩ ∧ (a == sysModules) = false ∧ EI kvs es.toList
theorem lookI_mem {kvs : List (Int × Int)} {i : Int} : (lookI kvs i).isSome = decide (i ∈ kvs.map (·.1)) := by
  induction kvs with
  | nil => rfl
  | cons p r ih =>
    obtain ⟨k, v⟩ := p
    unfold lookI
    by_cases q : i = k
    · rw [if_pos q]; simp [q]
    · rw [if_neg q, ih]; simp [q]
theorem EI.find {i : Int} : ∀ {kvs : List (Int × Int)} {es : List DictEntry}, EI kvs es → match lookI kvs i with
    | some v => ∃ u, (es.find? fun e => keyIs (.inl i) e.key).map (·.val) = some (.int v u)
    | none => (es.find? fun e => keyIs (.inl i) e.key).map (·.val) = none
  | _, _, .nil => rfl
  | _, _, .cons (k := k) (v := v) (t := t) (u := u) (r := r) (es := es) h => by
    have ih := EI.find (i := i) h
    unfold lookI
    by_cases q : i = k
    · subst q
      rw [if_pos rfl]
      refine ⟨u, ?_⟩
      rw [List.find?_cons_of_pos (by exact keyIs_int i t)]
      rfl
    · rw [if_neg q]
      have e : ¬ (keyIs (.inl i) (Value.int k t) = true) := by
        intro z
        obtain ⟨t', e'⟩ := Value.isInt_shape (k := i) (v := Value.int k t) z
        injection e' with e1 _
        exact q e1.symm
      rw [List.find?_cons_of_neg (by exact e)]
      exact ih
theorem EI.keys {P : Program} {w : World} : ∀ {kvs : List (Int × Int)} {es : List DictEntry}, EI kvs es → ∀ e ∈ es, ∃ k, (mixKind P w).is k e.key = true ∧ e.hash = (mixKind P w).hash k
  | _, _, .nil, e, he => nomatch he
  | _, _, .cons (k := k) (t := t) h, e, he => by
    rcases List.mem_cons.mp he with rfl | he
    · exact ⟨.inl k, keyIs_int k t, rfl⟩
    · exact EI.keys h e he
section
variable {X : Cx} {K : PySem.W.Frag}
theorem KDI.map {d : Addr} {kvs : List (Int × Int)} {pins : List (Addr × Obj)} {σ : L2.St} {H : Hp} {s : Shared} (D : KDI X.K d kvs) (I : Inv X pins σ H s) : (d == sysModules) = false ∧ ∃ f, s.heap.MapOf (mixKind X.prog X.w) d f ∧ ∀ i, match lookI kvs i with
    | some v => ∃ u, f (.inl i) = some (.int v u)
    | none => f (.inl i) = none := by
  obtain ⟨es, n, hl, hd, he⟩ := D
  refine ⟨hd, fun k => findBy keyIs es k, ⟨_, es, n, I.kIn _ _ hl, ⟨rfl, rfl, rfl⟩, rfl, fun e q => EI.keys he e (Array.mem_toList_iff.mpr q), fun _ => rfl⟩, fun i => ?_⟩
  have := EI.find (i := i) he
  have e : findBy keyIs es (.inl i) = (es.toList.find? fun e => keyIs (.inl i) e.key).map (·.val) := by
    obtain ⟨l⟩ := es
    unfold findBy
    rw [List.find?_toArray]
  show match lookI kvs i with
    | some v => ∃ u, findBy keyIs es (.inl i) = some (.int v u)
    | none => findBy keyIs es (.inl i) = none
  rw [e]
  exact this
def rInDI (K : PySem.W.Frag) : R2 := fun x y H Q => ∃ (i : Int) (d : Addr) (kvs : List (Int × Int)) (ks : List Int), x = .int i ∧ y = .ref d ∧ KDI K d kvs ∧ ks = kvs.map (·.1) ∧ Q (.bl (decide (i ∈ ks))) H
def rNotInDI (K : PySem.W.Frag) : R2 := fun x y H Q => ∃ (i : Int) (d : Addr) (kvs : List (Int × Int)) (ks : List Int), x = .int i ∧ y = .ref d ∧ KDI K d kvs ∧ ks = kvs.map (·.1) ∧ Q (.bl (!decide (i ∈ ks))) H
def rIxDI (K : PySem.W.Frag) : R2 := fun x y H Q => ∃ (d : Addr) (i v : Int) (kvs : List (Int × Int)), x = .ref d ∧ y = .int i ∧ KDI K d kvs ∧ lookI kvs i = some v ∧ Q (.int v) H
theorem op_inDI (hK : X.K = K := by rfl) : OpR X (compareOp .In) (rInDI K) := by
  subst hK
  intro pins s σ H x y v u Q I rx ry h
  obtain ⟨i, d, kvs, ks, rfl, rfl, D, rfl, q⟩ := h
  rw [← lookI_mem] at q
  obtain ⟨t, rfl⟩ := rx
  cases ry
  obtain ⟨hd, f, hm, hf⟩ := D.map I
  refine wpAny_in_of (knd := mixKind X.prog X.w) (kV_is (k := .inl i) ⟨t, rfl⟩) hd hm ?_
  have e : (f (.inl i)).isSome = (lookI kvs i).isSome := by
    have := hf i
    split at this
    · next v hv => obtain ⟨u, hu⟩ := this; rw [hu, hv]; rfl
    · next hv => rw [this, hv]; rfl
  rw [e]
  exact ⟨.bl (lookI kvs i).isSome, H, I.tok _, rfl, q⟩
theorem op_notInDI (hK : X.K = K := by rfl) : OpR X (compareOp .NotIn) (rNotInDI K) := by
  subst hK
  intro pins s σ H x y v u Q I rx ry h
  obtain ⟨i, d, kvs, ks, rfl, rfl, D, rfl, q⟩ := h
  rw [← lookI_mem] at q
  obtain ⟨t, rfl⟩ := rx
  cases ry
  obtain ⟨hd, f, hm, hf⟩ := D.map I
  refine wpAny_notIn_of (knd := mixKind X.prog X.w) (kV_is (k := .inl i) ⟨t, rfl⟩) hd hm ?_
  have e : (f (.inl i)).isSome = (lookI kvs i).isSome := by
    have := hf i
    split at this
    · next v hv => obtain ⟨u, hu⟩ := this; rw [hu, hv]; rfl
    · next hv => rw [this, hv]; rfl
  rw [e]
  exact ⟨.bl (!(lookI kvs i).isSome), H, I.tok _, rfl, q⟩
theorem ix_DI (hK : X.K = K := by rfl) : IxR X (rIxDI K) := by
  subst hK
  intro value slice pins s σ H x y v u Q I rx ry h hs
  obtain ⟨p, i, r, kvs, rfl, rfl, D, e, q⟩ := h
  obtain rfl : v = Value.ref p := rx
  obtain ⟨t, rfl⟩ := ry
  obtain ⟨hd, f, hm, hf⟩ := D.map I
  have := hf i
  rw [e] at this
  obtain ⟨u, hu⟩ := this
  exact tail_any hm.typeIs slot_dict_getitem.lookup (wpAny_getItem_of (knd := mixKind X.prog X.w) (kV_is (k := .inl i) ⟨t, rfl⟩) hm hu ⟨.int r, H, I.tok _, ⟨_, rfl⟩, q⟩) hs
end
/-- the value at a key that is there -/
def dictI (kvs : List (Int × Int)) (i : Int) : Int := (lookI kvs i).getD 0
theorem lookI_at {kvs : List (Int × Int)} {i : Int} (h : i ∈ kvs.map (·.1)) : lookI kvs i = some (dictI kvs i) := by
  have := lookI_mem (kvs := kvs) (i := i)
  rw [decide_eq_true h] at this
  unfold dictI
  cases e : lookI kvs i with
  | none => rw [e] at this; cases this
  | some v => rfl
/-! ### walks over two lists, over numbered items, backwards -/
theorem pi_enumK {X : Cx} {K : PySem.W.Frag} {e : Expr} {ta : TA} {p pos tpos : Pos} {elts : List Expr} {kk : Nat} (hg : Gl X "enumerate") (hm : X.mg "enumerate" = none) (ha : PA X [e] ta) (hK : X.K = K := by rfl) (hs : starEach [e] X.env = [(false, eval e X.env)] := by rfl) :
    PI X (.Tuple elts kk tpos) (.Call (.Name "enumerate" p) [e] [] pos) (iEnum K ta) := hK ▸ pi_enum hg hm ha hs
section
variable {K : PySem.W.Frag} {a b : Addr} {xs ys : List V} {g : TG} {tb : TS} {tt : TT} {te : TE} {D : Ends} {σ : L2.St} {H H1 : Hp} {vs : List Nat} {DD : Addr} {Qd : Hp → Prop}
theorem for_enum (Pv : Nat → L2.St → Hp → Prop) (h0 : Pv 0 σ H) (hq : ∀ i σ H, Pv i σ H → SqL K H a xs)
    (hs : ∀ (i : Nat) (y : V) (T : Addr) (σ : L2.St) (H : Hp), xs[i]? = some y → H T = none → Pv i σ H → g (.ref T) σ (upd H T (.tup [.int (i : Nat), y])) fun σ2 H2 => tb { D with nx := Pv (i + 1), ct := Pv (i + 1), bk := D.nx } σ2 H2) (hd : ∀ σ H, Pv xs.length σ H → D.nx σ H) :
    ∃ W : Nat → Nat → L2.St → Hp → Prop, (∃ m, W 0 m σ H) ∧ ∀ i m σ H, W i m σ H →
      ((Ite K a).stop i H ∧ D.nx σ H) ∨ ((Ite K a).go i H ∧ ∃ N : L2.St → Hp → Prop, (∀ σ' H', N σ' H' → ∃ m', m' < m ∧ W (i + 1) m' σ' H') ∧ ∀ v H', (Ite K a).yld i H v H' → g v σ H' fun σ2 H2 => tb { D with nx := N, ct := N, bk := D.nx } σ2 H2) := by
  refine for_it walk_enum Pv h0 (fun i σ H _ p => hq i σ H p) (fun i x σ H H' hi p y => ?_) hd
  obtain ⟨T, x1, y1, rfl, hT, rfl, h1, h2⟩ := y
  cases h1
  exact hs i y1 T σ H h2 hT p
theorem lc_enum (Pv : Nat → Hp → Prop) (h0 : Pv 0 (upd H1 DD (.lst []))) (hq : ∀ i H, i ≤ xs.length → Pv i H → SqL K H a xs)
    (hs : ∀ (i : Nat) (y : V) (T : Addr) (H : Hp), xs[i]? = some y → H T = none → Pv i H → g (.ref T) (wipe σ vs) (upd H T (.tup [.int (i : Nat), y])) fun σ2 H2 => wipe σ2 vs = wipe σ vs ∧ tt σ2 H2 fun b H3 =>
      if b = true then te σ2 H3 fun y H4 => ∃ acc, H4 DD = some (.lst acc) ∧ acc.length < sizeLine ∧ Pv (i + 1) (upd H4 DD (.lst (acc ++ [y]))) else Pv (i + 1) H3) (hd : ∀ H, Pv xs.length H → Qd H) :
    ∃ W : Nat → Nat → Hp → Prop, (∃ m, W 0 m (upd H1 DD (.lst []))) ∧ ∀ i m H, W i m H →
      ((Ite K a).stop i H ∧ Qd H) ∨ ((Ite K a).go i H ∧ ∃ Nx : Hp → Prop, (∀ H', Nx H' → ∃ m', m' < m ∧ W (i + 1) m' H') ∧ ∀ x H', (Ite K a).yld i H x H' → g x (wipe σ vs) H' fun σ2 H2 => wipe σ2 vs = wipe σ vs ∧ tt σ2 H2 fun b H3 =>
        if b = true then te σ2 H3 fun y H4 => ∃ acc, H4 DD = some (.lst acc) ∧ acc.length < sizeLine ∧ Nx (upd H4 DD (.lst (acc ++ [y]))) else Nx H3) := by
  refine lc_it walk_enum Pv h0 hq (fun i x H H' hi p y => ?_) hd
  obtain ⟨T, x1, y1, rfl, hT, rfl, h1, h2⟩ := y
  cases h1
  exact hs i y1 T H h2 hT p
/-- zip of two lists of any lengths -/
theorem for_zipM (n : Nat) (hn : n = min xs.length ys.length) (Pv : Nat → L2.St → Hp → Prop) (h0 : Pv 0 σ H) (hq : ∀ i σ H, Pv i σ H → SqL K H a xs ∧ SqL K H b ys)
    (hs : ∀ (i : Nat) (x y : V) (T : Addr) (σ : L2.St) (H : Hp), xs[i]? = some x → ys[i]? = some y → H T = none → Pv i σ H → g (.ref T) σ (upd H T (.tup [x, y])) fun σ2 H2 => tb { D with nx := Pv (i + 1), ct := Pv (i + 1), bk := D.nx } σ2 H2) (hd : ∀ σ H, Pv n σ H → D.nx σ H) :
    ∃ W : Nat → Nat → L2.St → Hp → Prop, (∃ m, W 0 m σ H) ∧ ∀ i m σ H, W i m σ H →
      ((Itz K a b).stop i H ∧ D.nx σ H) ∨ ((Itz K a b).go i H ∧ ∃ N : L2.St → Hp → Prop, (∀ σ' H', N σ' H' → ∃ m', m' < m ∧ W (i + 1) m' σ' H') ∧ ∀ v H', (Itz K a b).yld i H v H' → g v σ H' fun σ2 H2 => tb { D with nx := N, ct := N, bk := D.nx } σ2 H2) := by
  refine for_it (walk_zip hn) Pv h0 (fun i σ H _ p => hq i σ H p) (fun i x σ H H' hi p y => ?_) hd
  obtain ⟨T, x1, y1, rfl, hT, rfl, h1, h2⟩ := y
  exact hs i x1 y1 T σ H h1 h2 hT p
theorem lc_zipM (n : Nat) (hn : n = min xs.length ys.length) (Pv : Nat → Hp → Prop) (h0 : Pv 0 (upd H1 DD (.lst []))) (hq : ∀ i H, i ≤ n → Pv i H → SqL K H a xs ∧ SqL K H b ys)
    (hs : ∀ (i : Nat) (x y : V) (T : Addr) (H : Hp), xs[i]? = some x → ys[i]? = some y → H T = none → Pv i H → g (.ref T) (wipe σ vs) (upd H T (.tup [x, y])) fun σ2 H2 => wipe σ2 vs = wipe σ vs ∧ tt σ2 H2 fun b H3 =>
      if b = true then te σ2 H3 fun y H4 => ∃ acc, H4 DD = some (.lst acc) ∧ acc.length < sizeLine ∧ Pv (i + 1) (upd H4 DD (.lst (acc ++ [y]))) else Pv (i + 1) H3) (hd : ∀ H, Pv n H → Qd H) :
    ∃ W : Nat → Nat → Hp → Prop, (∃ m, W 0 m (upd H1 DD (.lst []))) ∧ ∀ i m H, W i m H →
      ((Itz K a b).stop i H ∧ Qd H) ∨ ((Itz K a b).go i H ∧ ∃ Nx : Hp → Prop, (∀ H', Nx H' → ∃ m', m' < m ∧ W (i + 1) m' H') ∧ ∀ x H', (Itz K a b).yld i H x H' → g x (wipe σ vs) H' fun σ2 H2 => wipe σ2 vs = wipe σ vs ∧ tt σ2 H2 fun b H3 =>
        if b = true then te σ2 H3 fun y H4 => ∃ acc, H4 DD = some (.lst acc) ∧ acc.length < sizeLine ∧ Nx (upd H4 DD (.lst (acc ++ [y]))) else Nx H3) := by
  refine lc_it (walk_zip hn) Pv h0 hq (fun i x H H' hi p y => ?_) hd
  obtain ⟨T, x1, y1, rfl, hT, rfl, h1, h2⟩ := y
  exact hs i x1 y1 T H h1 h2 hT p
end
theorem zipM_len {α β : Type} {xs : List α} {ys : List β} : min xs.length ys.length = (xs.zip ys).length := by rw [List.length_zip]
theorem zipM_n {α β : Type} {vs ws : List V} {xs : List α} {ys : List β} (a : vs.length = xs.length) (b : ws.length = ys.length) : min xs.length ys.length = min vs.length ws.length := by rw [a, b]
def rListTK (K : PySem.W.Frag) : List V → Hp → VK → Prop := fun xs H Q => ∃ (p : Addr) (vs : List V), xs = [.ref p] ∧ SqT K H p vs ∧ ∀ l, H l = none → Q (.ref l) (upd H l (.lst vs))
theorem call_listTK {X : Cx} {K : PySem.W.Frag} (hK : X.K = K := by rfl) : CallR X (.type "list") (rListTK K) := by
  subst hK
  intro pins s σ H xs us Q I r h
  obtain ⟨p, vs, rfl, hs, q⟩ := h
  exact call_list_of pins s σ H _ us Q I r ⟨p, _, rfl, Or.inr hs, q⟩
/-- two lists that keep step -/
inductive F2 {α β : Type} (P : α → β → Prop) : List α → List β → Prop
  | nil : F2 P [] []
  | cons {a : α} {b : β} {l : List α} {m : List β} (h : P a b) (t : F2 P l m) : F2 P (a :: l) (b :: m)
theorem F2.get {α β : Type} {P : α → β → Prop} : ∀ {l : List α} {m : List β}, F2 P l m → ∀ (j : Nat), j < l.length → ∃ a b, l[j]? = some a ∧ m[j]? = some b ∧ P a b
  | _, _, .nil, j, h => absurd h (Nat.not_lt_zero _)
  | _, _, .cons h t, 0, _ => ⟨_, _, rfl, rfl, h⟩
  | _, _, .cons h t, j + 1, hj => t.get j (Nat.lt_of_succ_lt_succ hj)
theorem F2.at {α β : Type} [Inhabited α] [Inhabited β] {P : α → β → Prop} {l : List α} {m : List β} (h : F2 P l m) (k : Int) (h0 : 0 ≤ k) (h1 : k < l.length) : P (itD l k) (itD m k) := by
  obtain ⟨j, rfl⟩ : ∃ j : Nat, k = (j : Int) := ⟨k.toNat, by omega⟩
  obtain ⟨a, b, ha, hb, p⟩ := h.get j (by omega)
  have e1 : itD l (j : Int) = a := by unfold itD; rw [atI_nat ha]; rfl
  have e2 : itD m (j : Int) = b := by unfold itD; rw [atI_nat hb]; rfl
  rw [e1, e2]
  exact p
theorem SqT.cast {K : PySem.W.Frag} {H : Hp} {a : Addr} {xs ys : List V} (h : SqT K H a xs) (e : xs = ys) : SqT K H a ys := e ▸ h
/-- enumerate(xs) -/
def enumL {α : Type} (xs : List α) : List (Int × α) := (rng 0 xs.length).zip xs
theorem enumL_len {α : Type} (xs : List α) : (enumL xs).length = xs.length := by
  unfold enumL
  rw [List.length_zip, rng_len, Nat.min_self]
theorem enumL_get {α : Type} {xs : List α} {i : Nat} {x : α} (h : xs[i]? = some x) : (enumL xs)[i]? = some ((i : Int), x) := by
  have hl : i < xs.length := (List.getElem?_eq_some_iff.mp h).1
  unfold enumL
  rw [List.getElem?_zip_eq_some]
  refine ⟨?_, h⟩
  have := rng_get (lo := 0) hl
  rw [this]
  congr 1
  omega
end Vx
namespace Vx
open PySem PySem.Spec PyProof.Rows L2
theorem wipe_get : ∀ (σ : L2.St) (vs : List Nat) (j : Nat), (wipe σ vs)[j]? = if j ∈ vs ∧ j < σ.length then some none else σ[j]?
  | σ, [], j => by simp [wipe]
  | σ, v :: vs, j => by
    unfold wipe
    by_cases e : v = j
    · subst e
      by_cases h : v < σ.length
      · rw [List.getElem?_set_self (by rw [wipe_length]; exact h), if_pos ⟨List.mem_cons_self, h⟩]
      · rw [if_neg (fun z => h z.2), List.getElem?_eq_none (by rw [List.length_set, wipe_length]; omega), List.getElem?_eq_none (by omega)]
    · rw [List.getElem?_set_ne e, wipe_get σ vs j]
      have : (j ∈ v :: vs ∧ j < σ.length) ↔ (j ∈ vs ∧ j < σ.length) := by
        constructor
        · rintro ⟨h1, h2⟩
          rcases List.mem_cons.mp h1 with rfl | h1
          · exact absurd rfl e
          · exact ⟨h1, h2⟩
        · rintro ⟨h1, h2⟩
          exact ⟨List.mem_cons_of_mem _ h1, h2⟩
      by_cases q : j ∈ vs ∧ j < σ.length
      · rw [if_pos q, if_pos (this.mpr q)]
      · rw [if_neg q, if_neg (fun z => q (this.mp z))]
theorem wipe_wipe {σ : L2.St} {vs : List Nat} : wipe (wipe σ vs) vs = wipe σ vs := by
  apply List.ext_getElem?
  intro j
  rw [wipe_get (wipe σ vs), wipe_length]
  by_cases q : j ∈ vs ∧ j < σ.length
  · rw [if_pos q, wipe_get, if_pos q]
  · rw [if_neg q]
theorem wipe_set {σ : L2.St} {vs : List Nat} {v : Nat} {x : Option V} (h : v ∈ vs) : wipe (σ.set v x) vs = wipe σ vs := by
  apply List.ext_getElem?
  intro j
  rw [wipe_get, wipe_get, List.length_set]
  by_cases q : j ∈ vs ∧ j < σ.length
  · rw [if_pos q, if_pos q]
  · rw [if_neg q, if_neg q]
    by_cases e : v = j
    · subst e
      have hl : ¬ v < σ.length := fun z => q ⟨h, z⟩
      rw [List.getElem?_eq_none (by rw [List.length_set]; omega), List.getElem?_eq_none (by omega)]
    · rw [List.getElem?_set_ne e]
/-- a comprehension over a step range -/
theorem lc_rangeC {lo c : Int} {n : Nat} {g : TG} {tt : TT} {te : TE} {vs : List Nat} {σ : L2.St} {H1 : Hp} {D : Addr} {Qd : Hp → Prop} (Pv : Nat → Hp → Prop) (h0 : Pv 0 (upd H1 D (.lst [])))
    (hs : ∀ i H, i < n → Pv i H → g (.int (lo + (i : Nat) * c)) (wipe σ vs) H fun σ2 H2 => wipe σ2 vs = wipe σ vs ∧ tt σ2 H2 fun b H3 =>
      if b = true then te σ2 H3 fun y H4 => ∃ acc, H4 D = some (.lst acc) ∧ acc.length < sizeLine ∧ Pv (i + 1) (upd H4 D (.lst (acc ++ [y]))) else Pv (i + 1) H3) (hd : ∀ H, Pv n H → Qd H) :
    ∃ W : Nat → Nat → Hp → Prop, (∃ m, W 0 m (upd H1 D (.lst []))) ∧ ∀ i m H, W i m H →
      ((Itc lo c n).stop i H ∧ Qd H) ∨ ((Itc lo c n).go i H ∧ ∃ Nx : Hp → Prop, (∀ H', Nx H' → ∃ m', m' < m ∧ W (i + 1) m' H') ∧ ∀ x H', (Itc lo c n).yld i H x H' → g x (wipe σ vs) H' fun σ2 H2 => wipe σ2 vs = wipe σ vs ∧ tt σ2 H2 fun b H3 =>
        if b = true then te σ2 H3 fun y H4 => ∃ acc, H4 D = some (.lst acc) ∧ acc.length < sizeLine ∧ Nx (upd H4 D (.lst (acc ++ [y]))) else Nx H3) := by
  refine ⟨fun i m H => m = n - i ∧ i ≤ n ∧ Pv i H, ⟨n, by simp, Nat.zero_le _, h0⟩, ?_⟩
  rintro i m H ⟨rfl, hi, p⟩
  rcases Nat.lt_or_ge i n with hlt | hge
  · refine .inr ⟨hlt, Pv (i + 1), fun H' p' => ⟨n - (i + 1), by omega, rfl, hlt, p'⟩, fun x H' y => ?_⟩
    obtain ⟨e, y⟩ := y
    subst e y
    exact hs i _ hlt p
  · cases Nat.le_antisymm hi hge
    exact .inl ⟨Nat.le_refl _, hd H p⟩

/-! ### reversed(list of ints), any(list of ints) -/
theorem pi_revK {X : Cx} {K : PySem.W.Frag} {tg : Expr} {e : Expr} {ta : TA} {p pos : Pos} (hg : Gl X "reversed") (hm : X.mg "reversed" = none) (ha : PA X [e] ta) (hK : X.K = K := by rfl) (hs : starEach [e] X.env = [(false, eval e X.env)] := by rfl) :
    PI X tg (.Call (.Name "reversed" p) [e] [] pos) (iRev K ta) := hK ▸ pi_reversed hg hm ha hs
theorem for_revI {K : PySem.W.Frag} {a : Addr} {xs : List Int} {g : TG} {tb : TS} {D : Ends} {σ : L2.St} {H : Hp} (Pv : Nat → L2.St → Hp → Prop) (h0 : Pv 0 σ H) (hl : ∀ i σ H, i ≤ (xs.reverse.map V.int).length → Pv i σ H → SqL K H a (xs.map V.int))
    (hs : ∀ i x σ H, (xs.reverse.map V.int)[i]? = some x → Pv i σ H → g x σ H fun σ2 H2 => tb { D with nx := Pv (i + 1), ct := Pv (i + 1), bk := D.nx } σ2 H2) (hd : ∀ σ H, Pv (xs.reverse.map V.int).length σ H → D.nx σ H) :
    ∃ W : Nat → Nat → L2.St → Hp → Prop, (∃ m, W 0 m σ H) ∧ ∀ i m σ H, W i m σ H →
      ((Itv K a (xs.map V.int).length).stop i H ∧ D.nx σ H) ∨ ((Itv K a (xs.map V.int).length).go i H ∧ ∃ N : L2.St → Hp → Prop, (∀ σ' H', N σ' H' → ∃ m', m' < m ∧ W (i + 1) m' σ' H') ∧ ∀ x H', (Itv K a (xs.map V.int).length).yld i H x H' → g x σ H' fun σ2 H2 => tb { D with nx := N, ct := N, bk := D.nx } σ2 H2) := by
  have en : (xs.reverse.map V.int).length = (xs.map V.int).length := by rw [List.length_map, List.length_map, List.length_reverse]
  rw [en] at hl hd
  refine for_it walk_rev Pv h0 hl (fun i x σ H H' hi p y => ?_) hd
  obtain ⟨rfl, hx⟩ := y
  refine hs i x σ _ ?_ p
  rw [List.map_reverse, List.getElem?_reverse hi]
  exact hx
theorem ints_get : ∀ {ns : List Int} {us : List Value} {i : Nat} {v : Value}, IntsAre us ns → us[i]? = some v → ∃ t, v = .int (ns.getD i 0) t := by
  intro ns us i v h
  induction h generalizing i with
  | nil => intro z; simp at z
  | cons n t _ ih =>
    intro z
    cases i with
    | zero => simp at z; exact ⟨t, by rw [← z]; rfl⟩
    | succ i => exact ih (by simpa using z)
theorem any_rangeI : ∀ ns : List Int, (List.range ns.length).any (fun i => ns.getD i 0 != 0) = ns.any (fun x => x != 0)
  | [] => rfl
  | b :: bs => by
    rw [List.length_cons, List.range_succ_eq_map, List.any_cons, List.any_map, List.any_cons, ← any_rangeI bs]
    all_goals rfl
theorem ints_len : ∀ {ns : List Int} {us : List Value}, IntsAre us ns → us.length = ns.length := by
  intro ns us h
  induction h with
  | nil => rfl
  | cons _ _ _ ih => simp [ih]
def rAnyI (K : PySem.W.Frag) : List V → Hp → VK → Prop := fun vs H Q => ∃ (a : Addr) (ns : List Int), vs = [V.ref a] ∧ SqL K H a (ns.map V.int) ∧ Q (.bl (ns.any fun x => x != 0)) H
theorem cr_anyI {X : Cx} (hc : X.calm = true) : CallR X (.builtin "any") (rAnyI X.K) := by
  intro pins s σ H vs us Q I r h
  obtain ⟨a, ns, rfl, hs, q⟩ := h
  obtain ⟨its, rv, hl, _⟩ := I.list hs
  rw [Vals.ref1 r]
  have hb := rv.ints
  refine call_any_walk (iter_any hl.isList fun s₂ e2 st hne => ?_)
  subst e2
  have ht : TruthOf X.prog X.w X.A.in1 (fun i v => its.toArray[i]? = some v) (fun i => ns.getD i 0 != 0) := fun i v s Q E hv hq => by
    obtain ⟨t, rfl⟩ := ints_get hb (by simpa using hv)
    exact PyProof.Rows.truthy_int hq
  refine ⟨_, _, _, _, _, _, _, rfl, Walks.list (A := X.A.in1) (I.ok.hd hc) _ a hne its.toArray, st, ht, fun h' tk hk => ?_⟩
  refine ⟨.bl _, H, I.kept fun b o eo => hk b o (fun hmem => ?_) (Heap.get?_push_of_some _ eo), ?_, q⟩
  · rcases List.mem_cons.mp hmem with e1 | hmem
    · exact absurd (e1 ▸ Heap.lt_size eo) (Nat.lt_irrefl _)
    · cases hmem
  · show Value.bool _ = Value.bool _
    rw [← any_rangeI, List.size_toArray, ints_len hb]
theorem cr_anyIK {X : Cx} {K : PySem.W.Frag} (hc : X.calm = true) (hK : X.K = K := by rfl) : CallR X (.builtin "any") (rAnyI K) := hK ▸ cr_anyI hc
/-- an item of a list of data stored anew -/
theorem RpAll.setM {α : Type} {f : α → PyData} {G : Hp} {vs : List V} {xs : List α} {k : Int} {v : V} {y : α} (d : RpAll G vs (xs.map f)) (r : Rp G v (f y)) : RpAll G (vs.set ((ixN vs.length k).getD 0) v) ((setL xs k y).map f) := by
  have e : vs.length = xs.length := by rw [d.len, List.length_map]
  unfold setL
  rw [List.map_set, e]
  exact RpAll.set r _ d
end Vx
/-! # data of any shape: None beside data, tuples of several shapes -/
namespace Vx
open PySem PySem.Spec PyProof.Rows L2
def encD (d : PyData) : PyData := d
def encN (_ : Unit) : PyData := .none
def encT1 {α : Type} (f : α → PyData) (x : α) : PyData := .tuple [f x]
instance instInhD : Inhabited PyData := ⟨.none⟩
/-- a known shape: what is laid, what is read back, whether the data has the shape -/
structure Cst (α : Type) where
  enc : α → PyData
  dec : PyData → α
  ok : PyData → Bool
  h : ∀ d, ok d = true → enc (dec d) = d
  oke : ∀ x, ok (enc x) = true
  de : ∀ x, dec (enc x) = x
def cI : Cst Int := ⟨PyData.int, fun d => match d with | .int i => i | _ => 0, fun d => match d with | .int _ => true | _ => false, fun d h => (by cases d <;> first | rfl | (cases h)), fun _ => rfl, fun _ => rfl⟩
def cB : Cst Bool := ⟨PyData.bool, fun d => match d with | .bool i => i | _ => false, fun d => match d with | .bool _ => true | _ => false, fun d h => (by cases d <;> first | rfl | (cases h)), fun _ => rfl, fun _ => rfl⟩
def cS : Cst Str := ⟨PyData.str, fun d => match d with | .str i => i | _ => "", fun d => match d with | .str _ => true | _ => false, fun d h => (by cases d <;> first | rfl | (cases h)), fun _ => rfl, fun _ => rfl⟩
def cN : Cst Unit := ⟨encN, fun _ => (), fun d => match d with | .none => true | _ => false, fun d h => (by cases d <;> first | rfl | (cases h)), fun _ => rfl, fun _ => rfl⟩
def cD : Cst PyData := ⟨encD, fun d => d, fun _ => true, fun _ _ => rfl, fun _ => rfl, fun _ => rfl⟩
theorem map_dec {α : Type} (c : Cst α) : ∀ xs : List PyData, xs.all c.ok = true → (xs.map c.dec).map c.enc = xs
  | [], _ => rfl
  | x :: xs, h => by
    rw [List.all_cons, Bool.and_eq_true] at h
    rw [List.map_cons, List.map_cons, c.h x h.1, map_dec c xs h.2]
def cL {α : Type} (c : Cst α) : Cst (List α) where
  enc := encL c.enc
  dec := fun d => match d with | .list xs => xs.map c.dec | _ => []
  ok := fun d => match d with | .list xs => xs.all c.ok | _ => false
  h := fun d h => by
    cases d with
    | list xs => exact congrArg PyData.list (map_dec c xs h)
    | _ => cases h
  oke := fun x => by
    show (x.map c.enc).all c.ok = true
    rw [List.all_map, List.all_eq_true]
    exact fun a _ => c.oke a
  de := fun x => by
    show (x.map c.enc).map c.dec = x
    rw [List.map_map]
    have e : c.dec ∘ c.enc = id := funext c.de
    rw [e, List.map_id]
def cT1 {α : Type} (a : Cst α) : Cst α where
  enc := encT1 a.enc
  dec := fun d => match d with | .tuple [x] => a.dec x | _ => a.dec .none
  ok := fun d => match d with | .tuple [x] => a.ok x | _ => false
  h := fun d h => by
    split at h
    · next x => exact congrArg (fun z => PyData.tuple [z]) (a.h x h)
    · cases h
  oke := fun x => a.oke x
  de := fun x => a.de x
def cT2 {α β : Type} (a : Cst α) (b : Cst β) : Cst (α × β) where
  enc := encT2 a.enc b.enc
  dec := fun d => match d with | .tuple [x, y] => (a.dec x, b.dec y) | _ => (a.dec .none, b.dec .none)
  ok := fun d => match d with | .tuple [x, y] => a.ok x && b.ok y | _ => false
  h := fun d h => by
    split at h
    · next x y =>
      rw [Bool.and_eq_true] at h
      show PyData.tuple [a.enc (a.dec x), b.enc (b.dec y)] = _
      rw [a.h x h.1, b.h y h.2]
    · cases h
  oke := fun x => by show (a.ok (a.enc x.1) && b.ok (b.enc x.2)) = true; rw [a.oke, b.oke]; rfl
  de := fun x => by show (a.dec (a.enc x.1), b.dec (b.enc x.2)) = x; rw [a.de, b.de]
def cT3 {α β γ : Type} (a : Cst α) (b : Cst β) (c : Cst γ) : Cst (α × β × γ) where
  enc := encT3 a.enc b.enc c.enc
  dec := fun d => match d with | .tuple [x, y, z] => (a.dec x, b.dec y, c.dec z) | _ => (a.dec .none, b.dec .none, c.dec .none)
  ok := fun d => match d with | .tuple [x, y, z] => a.ok x && b.ok y && c.ok z | _ => false
  h := fun d h => by
    split at h
    · next x y z =>
      simp only [Bool.and_eq_true] at h
      show PyData.tuple [a.enc (a.dec x), b.enc (b.dec y), c.enc (c.dec z)] = _
      rw [a.h x h.1.1, b.h y h.1.2, c.h z h.2]
    · cases h
  oke := fun x => by show (a.ok (a.enc x.1) && b.ok (b.enc x.2.1) && c.ok (c.enc x.2.2)) = true; rw [a.oke, b.oke, c.oke]; rfl
  de := fun x => by show (a.dec (a.enc x.1), b.dec (b.enc x.2.1), c.dec (c.enc x.2.2)) = x; rw [a.de, b.de, c.de]
def cT4 {α β γ δ : Type} (a : Cst α) (b : Cst β) (c : Cst γ) (e : Cst δ) : Cst (α × β × γ × δ) where
  enc := encT4 a.enc b.enc c.enc e.enc
  dec := fun d => match d with | .tuple [x, y, z, w] => (a.dec x, b.dec y, c.dec z, e.dec w) | _ => (a.dec .none, b.dec .none, c.dec .none, e.dec .none)
  ok := fun d => match d with | .tuple [x, y, z, w] => a.ok x && b.ok y && c.ok z && e.ok w | _ => false
  h := fun d h => by
    split at h
    · next x y z w =>
      simp only [Bool.and_eq_true] at h
      show PyData.tuple [a.enc (a.dec x), b.enc (b.dec y), c.enc (c.dec z), e.enc (e.dec w)] = _
      rw [a.h x h.1.1.1, b.h y h.1.1.2, c.h z h.1.2, e.h w h.2]
    · cases h
  oke := fun x => by show (a.ok (a.enc x.1) && b.ok (b.enc x.2.1) && c.ok (c.enc x.2.2.1) && e.ok (e.enc x.2.2.2)) = true; rw [a.oke, b.oke, c.oke, e.oke]; rfl
  de := fun x => by show (a.dec (a.enc x.1), b.dec (b.enc x.2.1), c.dec (c.enc x.2.2.1), e.dec (e.enc x.2.2.2)) = x; rw [a.de, b.de, c.de, e.de]
section
variable {H : Hp} {v : V} {d : PyData}
theorem rp_dcast {α : Type} (c : Cst α) (g : c.ok d = true) (r : Rp H v d) : Rp H v (c.enc (c.dec d)) := by rw [c.h d g]; exact r
def dNone : PyData → Bool
  | .none => true
  | _ => false
def dSeq : PyData → Bool
  | .list _ => true
  | .tuple _ => true
  | _ => false
def dTup : PyData → Bool
  | .tuple _ => true
  | _ => false
def dLst : PyData → Bool
  | .list _ => true
  | _ => false
def dInt : PyData → Bool
  | .int _ => true
  | .bool _ => true
  | _ => false
def dBool : PyData → Bool
  | .bool _ => true
  | _ => false
def dGet : PyData → Nat → PyData
  | .tuple xs, k => xs.getD k .none
  | .list xs, k => xs.getD k .none
  | _, _ => .none
def dHasT : PyData → Nat → Bool
  | .tuple xs, k => decide (k < xs.length)
  | _, _ => false
theorem rp_ref (g : dSeq d = true) (r : Rp H v d) : ∃ a, v = .ref a := by
  cases r <;> first | exact ⟨_, rfl⟩ | cases g
theorem rp_dget {k : Nat} (g : dHasT d k = true) (r : Rp H v d) : ∃ a vs u, v = .ref a ∧ H a = some (.tup vs) ∧ atI vs (k : Int) = some u ∧ Rp H u (dGet d k) := by
  cases r with
  | tup h rs =>
    rename_i ds
    have hk : k < ds.length := of_decide_eq_true g
    obtain ⟨u, h1, h2⟩ := RpAll.at' (i := k) (d := ds[k]) rs (List.getElem?_eq_getElem hk)
    refine ⟨_, _, u, rfl, h, ?_, ?_⟩
    · exact atI_nat h1
    · show Rp H u (ds.getD k .none)
      rw [List.getD_eq_getElem?_getD, List.getElem?_eq_getElem hk]
      exact h2
  | _ => cases g
theorem rp_non {x : Unit} (r : Rp H v (encN x)) : v = .non := by unfold encN at r; cases r; rfl
theorem rp_tup1 {α : Type} {f : α → PyData} {x : α} (r : Rp H v (encT1 f x)) : ∃ a v1, v = .ref a ∧ H a = some (.tup [v1]) ∧ Rp H v1 (f x) := by
  unfold encT1 at r
  cases r with
  | tup h1 h2 =>
    cases h2 with
    | cons r1 t => cases t; exact ⟨_, _, rfl, h1, r1⟩
theorem rp_mk1 {α : Type} {f : α → PyData} {a : Addr} {v1 : V} {x : α} (h1 : H a = some (.tup [v1])) (r1 : Rp H v1 (f x)) : Rp H (.ref a) (encT1 f x) := .tup h1 (.cons r1 .nil)
theorem rp_none_iff (r : Rp H v d) : decide (v = V.non) = dNone d := by
  cases r <;> simp [dNone]
end
section
variable {X : Cx}
def rIsND : R2 := fun x y H Q => ∃ d, y = .non ∧ Rp H x d ∧ Q (.bl (dNone d)) H
def rNotND : R2 := fun x y H Q => ∃ d, y = .non ∧ Rp H x d ∧ Q (.bl (!dNone d)) H
theorem op_isND : OpR X (compareOp .Is) rIsND := by
  intro pins s σ H x y v u Q I rx ry h
  obtain ⟨d, e, r, q⟩ := h
  exact op_isN pins s σ H x y v u Q I rx ry ⟨e, by rw [rp_none_iff r]; exact q⟩
theorem op_notND : OpR X (compareOp .IsNot) rNotND := by
  intro pins s σ H x y v u Q I rx ry h
  obtain ⟨d, e, r, q⟩ := h
  exact op_notN pins s σ H x y v u Q I rx ry ⟨e, by rw [rp_none_iff r]; exact q⟩
def rEqD : R2 := fun x y H Q => ∃ a b : PyData, Rp H x a ∧ Rp H y b ∧ (SeqAt.shaped a = true ∧ SeqAt.shaped b = true) ∧ Q (.bl (PyData.eqv a b)) H
def rNeD : R2 := fun x y H Q => ∃ a b : PyData, Rp H x a ∧ Rp H y b ∧ (SeqAt.shaped a = true ∧ SeqAt.shaped b = true) ∧ Q (.bl (!PyData.eqv a b)) H
theorem op_eqDD (hu : X.A.units + 64 < cLine) : OpR X (compareOp .Eq) rEqD := by
  intro pins s σ H x y v u Q I rx ry h
  obtain ⟨a, b, h1, h2, ⟨s1, s2⟩, q⟩ := h
  exact op_eqD hu pins s σ H _ _ v u Q I rx ry ⟨_, _, h1.dp, h2.dp, s1, s2, q⟩
theorem op_neDD (hu : X.A.units + 64 < cLine) : OpR X (compareOp .NotEq) rNeD := by
  intro pins s σ H x y v u Q I rx ry h
  obtain ⟨a, b, h1, h2, ⟨s1, s2⟩, q⟩ := h
  exact op_neD hu pins s σ H _ _ v u Q I rx ry ⟨_, _, h1.dp, h2.dp, s1, s2, q⟩
def dTy : PyData → String
  | .none => "NoneType"
  | .bool _ => "bool"
  | .int _ => "int"
  | .str _ => "str"
  | .list _ => "list"
  | .tuple _ => "tuple"
  | .dict _ => "dict"
theorem Rp.tyX {K : PySem.W.Frag} {H : Hp} {v : V} {d : PyData} (r : Rp H v d) : TyX K H v (.type (dTy d)) := by
  cases r with
  | non => exact .base .non
  | bl b => exact .base (.bl b)
  | int i => exact .base (.int i)
  | str x => exact .base (.str x)
  | lst h _ => exact .base (.lst h)
  | tup h _ => exact .base (.tup h)
def rIsiD (T : String) (f : PyData → Bool) : List V → Hp → VK → Prop := fun xs H Q => ∃ (x : V) (d : PyData), xs = [x, .ty T] ∧ Rp H x d ∧ Q (.bl (f d)) H
theorem call_isiD {T : String} {f : PyData → Bool} (hT : ∀ d, kitB (dTy d) T = some (f d)) : CallR X (.builtin "isinstance") (rIsiD T f) := by
  intro pins s σ H xs us Q I r h
  obtain ⟨x, d, rfl, rx, q⟩ := h
  exact call_isi pins s σ H _ us Q I r ⟨x, .ty T, _, _, _, rfl, .ty T, rx.tyX, kit_ty (hT d), q⟩
theorem kit_dTup (d : PyData) : kitB (dTy d) "tuple" = some (dTup d) := by
  cases d with
  | none => exact (by decide +kernel : kitB "NoneType" "tuple" = some false)
  | bool _ => exact (by decide +kernel : kitB "bool" "tuple" = some false)
  | int _ => exact (by decide +kernel : kitB "int" "tuple" = some false)
  | str _ => exact (by decide +kernel : kitB "str" "tuple" = some false)
  | list _ => exact (by decide +kernel : kitB "list" "tuple" = some false)
  | tuple _ => exact (by decide +kernel : kitB "tuple" "tuple" = some true)
  | dict _ => exact (by decide +kernel : kitB "dict" "tuple" = some false)
theorem kit_dLst (d : PyData) : kitB (dTy d) "list" = some (dLst d) := by
  cases d with
  | none => exact (by decide +kernel : kitB "NoneType" "list" = some false)
  | bool _ => exact (by decide +kernel : kitB "bool" "list" = some false)
  | int _ => exact (by decide +kernel : kitB "int" "list" = some false)
  | str _ => exact (by decide +kernel : kitB "str" "list" = some false)
  | list _ => exact (by decide +kernel : kitB "list" "list" = some true)
  | tuple _ => exact (by decide +kernel : kitB "tuple" "list" = some false)
  | dict _ => exact (by decide +kernel : kitB "dict" "list" = some false)
theorem kit_dInt (d : PyData) : kitB (dTy d) "int" = some (dInt d) := by
  cases d with
  | none => exact (by decide +kernel : kitB "NoneType" "int" = some false)
  | bool _ => exact (by decide +kernel : kitB "bool" "int" = some true)
  | int _ => exact (by decide +kernel : kitB "int" "int" = some true)
  | str _ => exact (by decide +kernel : kitB "str" "int" = some false)
  | list _ => exact (by decide +kernel : kitB "list" "int" = some false)
  | tuple _ => exact (by decide +kernel : kitB "tuple" "int" = some false)
  | dict _ => exact (by decide +kernel : kitB "dict" "int" = some false)
theorem kit_dBool (d : PyData) : kitB (dTy d) "bool" = some (dBool d) := by
  cases d with
  | none => exact (by decide +kernel : kitB "NoneType" "bool" = some false)
  | bool _ => exact (by decide +kernel : kitB "bool" "bool" = some true)
  | int _ => exact (by decide +kernel : kitB "int" "bool" = some false)
  | str _ => exact (by decide +kernel : kitB "str" "bool" = some false)
  | list _ => exact (by decide +kernel : kitB "list" "bool" = some false)
  | tuple _ => exact (by decide +kernel : kitB "tuple" "bool" = some false)
  | dict _ => exact (by decide +kernel : kitB "dict" "bool" = some false)
end
/-! ### written dicts of numbers with text keys -/
inductive ES (P : Params) : List (Str × Int) → List DictEntry → Prop
  | nil : ES P [] []
  | cons {h k v} {t u : Tok} {r : List (Str × Int)} {es : List DictEntry} (e : h = PyData.keyHash P k) (x : ES P r es) : ES P ((k, v) :: r) (⟨h, .str k t, .int v u⟩ :: es)
def lookS : List (Str × Int) → Str → Option Int
  | [], _ => none
  | (k, v) :: r, i => if k = i then some v else lookS r i
def KDS (K : PySem.W.Frag) (w : World) (a : Addr) (kvs : List (Str × Int)) : Prop :=
  ∃ es n, K.lookup a = some ⟨.type "dict", none, .dict es n, #[]⟩ ∧ ES w.params kvs es.toList
theorem ES.lit {P : Params} : ∀ {kvs : List (Str × Int)} {es : List DictEntry}, ES P kvs es → PySem.W.KeysLit P es
  | _, _, .nil => trivial
  | _, _, .cons e x => ⟨⟨_, _, rfl, e⟩, ES.lit x⟩
theorem ES.find {P : Params} {i : Str} {v : Int} : ∀ {kvs : List (Str × Int)} {es : List DictEntry}, ES P kvs es → lookS kvs i = some v → ∃ e u, es.find? (fun e => e.key.isStr i) = some e ∧ e.val = .int v u
  | _, _, .nil, h => by cases h
  | _, _, .cons (k := k) (u := u) e x, h => by
    unfold lookS at h
    by_cases q : k = i
    · rw [if_pos q] at h
      subst q
      cases h
      refine ⟨_, u, List.find?_cons_of_pos ?_, rfl⟩
      simp [Value.isStr]
    · rw [if_neg q] at h
      obtain ⟨e', u', h1, h2⟩ := ES.find x h
      refine ⟨e', u', ?_, h2⟩
      rw [List.find?_cons_of_neg]
      · exact h1
      · simp [Value.isStr, q]
theorem KDS.at {K : PySem.W.Frag} {w : World} {a : Addr} {kvs : List (Str × Int)} {z : Str} {v : Int} (D : KDS K w a kvs) (h : lookS kvs z = some v) : KDct K w a z (.int v) := by
  obtain ⟨es, n, hl, x⟩ := D
  obtain ⟨e, u, h1, h2⟩ := x.find h
  refine ⟨es, n, .int v u, hl, x.lit, ?_, ⟨u, rfl⟩⟩
  unfold PySem.W.nsIn
  rw [hl]
  show (match es.toList.find? (fun e => e.key.isStr z) with
      | some e => some (some e.val)
      | none => if es.toList.any (·.refKey) then none else some none) = _
  rw [h1]
  show some (some e.val) = _
  rw [h2]
def rIxDS (K : PySem.W.Frag) (w : World) : R2 := fun x y H Q => ∃ (p : Addr) (z : Str) (kvs : List (Str × Int)) (v : Int), x = .ref p ∧ y = .str z ∧ KDS K w p kvs ∧ lookS kvs z = some v ∧ Q (.int v) H
theorem ix_DS {X : Cx} {K : PySem.W.Frag} {w : World} (hK : X.K = K := by rfl) (hw : X.w = w := by rfl) : IxR X (rIxDS K w) := by
  subst hK hw
  intro value slice pins s σ H x y v u Q I rx ry h hs
  obtain ⟨p, z, kvs, r, e1, e2, D, e, q⟩ := h
  exact ix_kdict value slice pins s σ H x y v u Q I rx ry ⟨p, z, .int r, e1, e2, D.at e, q⟩ hs
def dictS (kvs : List (Str × Int)) (i : Str) : Int := (lookS kvs i).getD 0
def hasS (kvs : List (Str × Int)) (i : Str) : Bool := (lookS kvs i).isSome
theorem lookS_at {kvs : List (Str × Int)} {i : Str} (h : hasS kvs i = true) : lookS kvs i = some (dictS kvs i) := by
  unfold hasS at h
  unfold dictS
  cases e : lookS kvs i with
  | none => rw [e] at h; cases h
  | some v => rfl
/-! ### for the mathematics -/
theorem eqv_enc {α : Type} [DecidableEq α] {n : Nat} {f : α → PyData} (ok : EncOk n f) (x y : α) : PyData.eqv (f x) (f y) = decide (x = y) := ok.eqv x y
end Vx
namespace Vx
open PySem PySem.Spec PyProof.Rows L2
theorem sm_str {x : Str} (h : (reprText x).length ≤ 20) : Sm 1 0 (.str x) := ⟨by simp only [smallD, decide_eq_true_eq]; exact h, by simp [nodes], by simp [PyData.depth]⟩
theorem sm_none : Sm 1 0 (encN ()) := sm_non
theorem sm_T1 {α : Type} {f : α → PyData} {n k : Nat} {p : α} (h1 : Sm n k (f p)) : Sm (1 + n) (k + 1) (encT1 f p) := by
  obtain ⟨a1, a2, a3⟩ := h1
  refine ⟨by simp [encT1, smallD, smallAll, a1], ?_, ?_⟩
  · simp only [encT1, nodes, nodesAll]
    omega
  · simp only [encT1, PyData.depth, PyData.depthAll]
    omega
theorem sm_T4 {α β γ δ : Type} {f : α → PyData} {g : β → PyData} {h : γ → PyData} {e : δ → PyData} {n k m j l i o q : Nat} {p : α × β × γ × δ} (h1 : Sm n k (f p.1)) (h2 : Sm m j (g p.2.1)) (h3 : Sm l i (h p.2.2.1)) (h4 : Sm o q (e p.2.2.2)) : Sm (1 + n + m + l + o) (max k (max j (max i q)) + 1) (encT4 f g h e p) := by
  obtain ⟨a1, a2, a3⟩ := h1
  obtain ⟨b1, b2, b3⟩ := h2
  obtain ⟨c1, c2, c3⟩ := h3
  obtain ⟨d1, d2, d3⟩ := h4
  refine ⟨by simp [encT4, smallD, smallAll, a1, b1, c1, d1], ?_, ?_⟩
  · simp only [encT4, nodes, nodesAll]
    omega
  · simp only [encT4, PyData.depth, PyData.depthAll]
    omega
theorem Sm.enc {n k : Nat} {d : PyData} (h : Sm n k d) : Sm n k (encD d) := h
end Vx
namespace Vx
theorem len8 {α : Type} {l : List α} (h : l.length = 8) : ∃ x0 x1 x2 x3 x4 x5 x6 x7, l = [x0, x1, x2, x3, x4, x5, x6, x7] := by
  obtain ⟨x0, r, rfl, h2⟩ := len_s h
  obtain ⟨x1, x2, x3, x4, x5, x6, x7, rfl⟩ := len7 h2
  exact ⟨x0, x1, x2, x3, x4, x5, x6, x7, rfl⟩
theorem len9 {α : Type} {l : List α} (h : l.length = 9) : ∃ x0 x1 x2 x3 x4 x5 x6 x7 x8, l = [x0, x1, x2, x3, x4, x5, x6, x7, x8] := by
  obtain ⟨x0, r, rfl, h2⟩ := len_s h
  obtain ⟨x1, x2, x3, x4, x5, x6, x7, x8, rfl⟩ := len8 h2
  exact ⟨x0, x1, x2, x3, x4, x5, x6, x7, x8, rfl⟩
theorem len10 {α : Type} {l : List α} (h : l.length = 10) : ∃ x0 x1 x2 x3 x4 x5 x6 x7 x8 x9, l = [x0, x1, x2, x3, x4, x5, x6, x7, x8, x9] := by
  obtain ⟨x0, r, rfl, h2⟩ := len_s h
  obtain ⟨x1, x2, x3, x4, x5, x6, x7, x8, x9, rfl⟩ := len9 h2
  exact ⟨x0, x1, x2, x3, x4, x5, x6, x7, x8, x9, rfl⟩
theorem len11 {α : Type} {l : List α} (h : l.length = 11) : ∃ x0 x1 x2 x3 x4 x5 x6 x7 x8 x9 x10, l = [x0, x1, x2, x3, x4, x5, x6, x7, x8, x9, x10] := by
  obtain ⟨x0, r, rfl, h2⟩ := len_s h
  obtain ⟨x1, x2, x3, x4, x5, x6, x7, x8, x9, x10, rfl⟩ := len10 h2
  exact ⟨x0, x1, x2, x3, x4, x5, x6, x7, x8, x9, x10, rfl⟩
theorem len12 {α : Type} {l : List α} (h : l.length = 12) : ∃ x0 x1 x2 x3 x4 x5 x6 x7 x8 x9 x10 x11, l = [x0, x1, x2, x3, x4, x5, x6, x7, x8, x9, x10, x11] := by
  obtain ⟨x0, r, rfl, h2⟩ := len_s h
  obtain ⟨x1, x2, x3, x4, x5, x6, x7, x8, x9, x10, x11, rfl⟩ := len11 h2
  exact ⟨x0, x1, x2, x3, x4, x5, x6, x7, x8, x9, x10, x11, rfl⟩
end Vx
namespace Vx
open PySem PySem.Spec PyProof.Rows L2
theorem Sep.mutnews {M : List Addr} {H0 G0 G H H' : Hp} {O : List Addr} (S : Sep M H0 G0 G H O) {L : List Addr} (x : SameXs L H H') (hL : ∀ a ∈ L, a ∈ O) (hs : ∀ a ∈ L, H' a ≠ none) (N : List Addr) (hN : ∀ a ∈ N, H a = none ∧ H' a ≠ none ∧ H0 a = none) : Sep M H0 G0 G H' (N ++ O) := by
  have S1 := S.mut x hL hs
  refine ⟨S1.base, S1.pm, S1.sG, S1.g0, S1.gn, fun a ha => ?_⟩
  rcases List.mem_append.mp ha with z | z
  · obtain ⟨h1, h2, h3⟩ := hN a z
    exact ⟨S.gfree h1, h2, .inr h3⟩
  · exact S1.ow a z
end Vx
/-! # trees that are changed from outside; trees within objects -/
namespace Vx
open PySem PySem.Spec PyProof.Rows L2
section
variable {M : List Addr} {H0 G0 G H H' : Hp} {O : List Addr}
/-- a change of what is owned, by which trees grow and data come to stay -/
theorem Sep.mutgrow (S : Sep M H0 G0 G H O) {G' : Hp} {L : List Addr} (x : SameXs L H H') (hL : ∀ a ∈ L, a ∈ O) (hs : ∀ a ∈ L, H' a ≠ none) (eG : Same G G') (sG : Same G' H') (hn : ∀ b, H b ≠ none → G b = none → G' b = none)
    {O' : List Addr} (hO : ∀ b ∈ O', b ∈ O ∨ (H b = none ∧ G' b = none ∧ H' b ≠ none)) : Sep M H0 G0 G' H' O' := by
  have S1 := S.mut x hL hs
  have there : ∀ b, H b ≠ none → H' b ≠ none := fun b h => by
    by_cases hb : b ∈ L
    · exact hs b hb
    · cases q : H b with
      | none => exact absurd q h
      | some o => exact some_ne (x b o q hb)
  refine ⟨S1.base, S1.pm, sG, S.g0.trans eG, fun b hb gb => hn b (fun z => hb (S.free z)) (S.gn b hb gb), fun b hb => ?_⟩
  rcases hO b hb with h | ⟨h1, h2, h3⟩
  · obtain ⟨g, h, m⟩ := S.ow b h
    exact ⟨hn b h g, there b h, m⟩
  · exact ⟨h2, h3, .inr (S.free h1)⟩
/-- what is borrowed is none of what a callee may change -/
theorem Sep.bhide (S : Sep M H0 G0 G H O) {L : List Addr} (h : ∀ a ∈ L, a ∈ O) : Same (hideL M H0) (hideL L H) := fun b o e => by
  rw [hideL_out fun z => b_ne e S (h b z) rfl]
  exact S.bM b o e
end
theorem grown_ne {H : Hp} {L F : List Addr} {x : Addr} (s : ∀ b ∈ L, b ∈ F ∨ H b = none) (n : ∀ b ∈ F, b ≠ x) (h : H x ≠ none) : ∀ b ∈ L, b ≠ x := fun b hb z => by
  rcases s b hb with q | q
  · exact n b q z
  · exact h (z ▸ q)
theorem grown_nl {H : Hp} {L F L2 : List Addr} (s : ∀ b ∈ L, b ∈ F ∨ H b = none) (n : ∀ b ∈ F, b ∉ L2) (h : ∀ b ∈ L2, H b ≠ none) : ∀ b ∈ L, b ∉ L2 := fun b hb z => by
  rcases s b hb with q | q
  · exact n b q z
  · exact h b z q
section
variable {α : Type} {f : α → PyData} {G H : Hp} {a : Addr}
theorem rp_listAt {xs : List α} (r : Rp H (.ref a) (encL f xs)) : ∃ vs, H a = some (.lst vs) ∧ RpAll H vs (xs.map f) := by
  obtain ⟨b, vs, e, h, d⟩ := rp_list r
  cases e
  exact ⟨vs, h, d⟩
theorem OwAll.frzs : ∀ {vs : List V} {xs : List α}, RpAll G vs (xs.map f) → OwAll G H [] vs (xs.map (oF f))
  | _, [], .nil => .nil
  | _, _ :: _, .cons r t => .cons (L1 := []) (L2 := []) (.frz r) (OwAll.frzs t) (fun _ z => nomatch z)
theorem OwAll.toFrzs : ∀ {L : List Addr} {vs : List V} {xs : List α}, OwAll G H L vs (xs.map (oF f)) → RpAll G vs (xs.map f)
  | _, _, [], .nil => .nil
  | _, _, x :: xs, .cons a r _ => by
    cases a with
    | frz z => exact .cons z (OwAll.toFrzs r)
end
theorem rp_dgetI {H : Hp} {v : V} {d : PyData} {k : Int} (g : (0 : Int) ≤ k ∧ dHasT d (Int.toNat k) = true) (r : Rp H v d) : ∃ a vs u, v = .ref a ∧ H a = some (.tup vs) ∧ atI vs k = some u ∧ Rp H u (dGet d (Int.toNat k)) := by
  obtain ⟨a, vs, u, e, h, x, y⟩ := rp_dget g.2 r
  rw [Int.toNat_of_nonneg g.1] at x
  exact ⟨a, vs, u, e, h, x, y⟩
/-! ### what may be None -/
def OptF {α : Type} (G hp : Hp) (v : V) (x : Option (List α)) (f : α → PyData) : Prop := match x with
  | none => v = .non
  | some xs => ∃ a vs, v = .ref a ∧ hp a = some (.lst vs) ∧ RpAll G vs (xs.map f)
def optE {α β : Type} (x : Option α) (a : Rx β) (b : α → Rx β) : Rx β := match x with
  | none => a
  | some y => b y
theorem cW_optN {α β : Type} {a : Rx β} {b : α → Rx β} {K : β → Prop} {E : Nat → Prop} (h : cW (optE none a b) K E) : cW a K E := h
theorem cW_optS {α β : Type} {y : α} {a : Rx β} {b : α → Rx β} {K : β → Prop} {E : Nat → Prop} (h : cW (optE (some y) a b) K E) : cW (b y) K E := h
/-! ### sorted(list of ints) -/
def insI (x : Int) : List Int → List Int
  | [] => [x]
  | y :: r => if x ≤ y then x :: y :: r else y :: insI x r
def sortL (xs : List Int) : List Int := xs.foldr insI []
theorem insI_perm {x : Int} : ∀ {l : List Int}, (insI x l).Perm (x :: l)
  | [] => .refl _
  | y :: r => by
    unfold insI
    split
    · exact .refl _
    · exact ((insI_perm (l := r)).cons y).trans (.swap x y r)
theorem sortL_perm : ∀ l : List Int, (sortL l).Perm l
  | [] => .refl _
  | x :: r => (insI_perm (l := sortL r)).trans ((sortL_perm r).cons x)
theorem insI_pw {x : Int} : ∀ {l : List Int}, l.Pairwise (· ≤ ·) → (insI x l).Pairwise (· ≤ ·)
  | [], _ => List.pairwise_singleton _ _
  | y :: r, h => by
    obtain ⟨h1, h2⟩ := List.pairwise_cons.mp h
    unfold insI
    split
    · rename_i c
      refine List.pairwise_cons.mpr ⟨fun z hz => ?_, h⟩
      rcases List.mem_cons.mp hz with rfl | hz
      · exact c
      · exact Int.le_trans c (h1 z hz)
    · rename_i c
      refine List.pairwise_cons.mpr ⟨fun z hz => ?_, insI_pw h2⟩
      rcases List.mem_cons.mp ((insI_perm (l := r)).mem_iff.mp hz) with rfl | hz
      · omega
      · exact h1 z hz
theorem sortL_pw : ∀ l : List Int, (sortL l).Pairwise (· ≤ ·)
  | [] => List.Pairwise.nil
  | _ :: r => insI_pw (sortL_pw r)
theorem sortL_of {ns ks : List Int} (p : ns.Perm ks) (h : ns.Pairwise (· ≤ ·)) : ns = sortL ks :=
  (p.trans (sortL_perm ks).symm).eq_of_pairwise (fun _ _ _ _ a b => Int.le_antisymm a b) h (sortL_pw ks)
def rSortL (K : PySem.W.Frag) : List V → Hp → VK → Prop := fun xs H Q => ∃ (a : Addr) (ns : List Int), xs = [.ref a] ∧ SqL K H a (ns.map V.int) ∧ ∀ p, H p = none → Q (.ref p) (upd H p (.lst ((sortL ns).map V.int)))
theorem cr_sortL {X : Cx} {K : PySem.W.Frag} (hK : X.K = K := by rfl) : CallR X (.builtin "sorted") (rSortL K) := by
  subst hK
  intro pins s σ H vs us Q I r h
  obtain ⟨a, ns, e, hs, q⟩ := h
  refine cr_sortedI pins s σ H vs us Q I r ⟨a, ns, e, hs, fun ns' p pm pw hp => ?_⟩
  rw [sortL_of pm pw]
  exact q p hp
end Vx
namespace Vt
open PySem PySem.Spec PyProof.Rows L2 Vx
end Vt
/-! # fourth part: reckoning with functions that may refuse -/
namespace Vx
open PySem PySem.Spec PyProof.Rows L2
section
variable {α β σ ρ τ : Type}
theorem bind_ok (a : α) (f : α → Rx β) : (Rx.ok a).bind f = f a := rfl
theorem bind_er (e : Nat) (f : α → Rx β) : (Rx.er e : Rx α).bind f = .er e := rfl
theorem grd_pos {p : Prop} {dp : Decidable p} {m : Rx α} (h : p) : grd p m = m := if_pos h
theorem bnd_eq (a : α) (f : α → Rx β) : bnd a f = f a := rfl
theorem noEr_ok (a : α) : noEr (.ok a : Rx α) = .ok a := rfl
theorem tryR_ok {cs : List Nat} (a : α) (f : α → Rx β) (g : Nat → Rx β) : tryR (.ok a) cs f g = f a := rfl
theorem tryR_er {cs : List Nat} {e : Nat} (h : e ∈ cs) (f : α → Rx β) (g : Nat → Rx β) : tryR (.er e) cs f g = g e := if_pos h
theorem aft_go (s : σ) (kr : ρ → Rx τ) (k : σ → Rx τ) : (Lp.go s : Lp σ ρ).aft kr k = k s := rfl
theorem aft_rt (r : ρ) (kr : ρ → Rx τ) (k : σ → Rx τ) : (Lp.rt r : Lp σ ρ).aft kr k = kr r := rfl
/-- gives a value of which P holds -/
def Gv (m : Rx α) (P : α → Prop) : Prop := ∃ v, m = .ok v ∧ P v
theorem Gv.ok {a : α} {P : α → Prop} (h : P a) : Gv (.ok a) P := ⟨a, rfl, h⟩
theorem Gv.of_eq {m : Rx α} {a : α} {P : α → Prop} (e : m = .ok a) (h : P a) : Gv m P := ⟨a, e, h⟩
theorem Gv.bind {m : Rx α} {f : α → Rx β} {P : α → Prop} {Q : β → Prop} (h : Gv m P) (k : ∀ v, P v → Gv (f v) Q) : Gv (m.bind f) Q := by
  obtain ⟨v, rfl, p⟩ := h
  exact k v p
theorem Gv.bind_eq {m : Rx α} {f : α → Rx β} {a : α} {Q : β → Prop} (h : m = .ok a) (k : Gv (f a) Q) : Gv (m.bind f) Q := by
  subst h
  exact k
theorem Gv.grd {p : Prop} {dp : Decidable p} {m : Rx α} {Q : α → Prop} (h : p) (k : Gv m Q) : Gv (Vx.grd p m) Q := by
  rw [grd_pos h]
  exact k
theorem Gv.bnd {a : α} {f : α → Rx β} {Q : β → Prop} (k : ∀ x, x = a → Gv (f x) Q) : Gv (Vx.bnd a f) Q := k a rfl
theorem Gv.ite {p : Prop} {dp : Decidable p} {a b : Rx α} {Q : α → Prop} (h1 : p → Gv a Q) (h2 : ¬ p → Gv b Q) : Gv (if p then a else b) Q := by
  split
  · exact h1 ‹_›
  · exact h2 ‹_›
theorem Gv.pos {p : Prop} {dp : Decidable p} {a b : Rx α} {Q : α → Prop} (h : p) (k : Gv a Q) : Gv (if p then a else b) Q := by rwa [if_pos h]
theorem Gv.neg {p : Prop} {dp : Decidable p} {a b : Rx α} {Q : α → Prop} (h : ¬ p) (k : Gv b Q) : Gv (if p then a else b) Q := by rwa [if_neg h]
theorem Gv.imp {m : Rx α} {P Q : α → Prop} (h : Gv m P) (k : ∀ v, P v → Q v) : Gv m Q := by
  obtain ⟨v, e, p⟩ := h
  exact ⟨v, e, k v p⟩
theorem Gv.noEr {m : Rx α} {P : α → Prop} (h : Gv m P) : Gv (Vx.noEr m) P := by
  obtain ⟨v, rfl, p⟩ := h
  exact ⟨v, rfl, p⟩
theorem Gv.tryOk {m : Rx α} {cs : List Nat} {f : α → Rx β} {g : Nat → Rx β} {P : α → Prop} {Q : β → Prop} (h : Gv m P) (k : ∀ v, P v → Gv (f v) Q) : Gv (tryR m cs f g) Q := by
  obtain ⟨v, rfl, p⟩ := h
  exact k v p
theorem Gv.tryEr {m : Rx α} {cs : List Nat} {e : Nat} {f : α → Rx β} {g : Nat → Rx β} {Q : β → Prop} (h : m = .er e) (hm : e ∈ cs) (k : Gv (g e) Q) : Gv (tryR m cs f g) Q := by
  subst h
  rw [tryR_er hm]
  exact k
theorem Gv.get {m : Rx α} {a : α} (h : Gv m (fun v => v = a)) : m = .ok a := by
  obtain ⟨v, e, rfl⟩ := h
  exact e
theorem Gv.eq {m : Rx α} {P : α → Prop} (h : Gv m P) : ∃ v, m = .ok v ∧ P v := h
/-- a loop that keeps P -/
theorem Gv.forS {P : Nat → σ → Prop} {xs : List α} {s : σ} {f : σ → α → Rx σ} (h0 : P 0 s) (hs : ∀ i x s, xs[i]? = some x → P i s → Gv (f s x) (P (i + 1))) : Gv (Vx.forS xs s f) (P xs.length) := by
  induction xs generalizing s P with
  | nil => exact .ok h0
  | cons x r ih =>
    refine Gv.bind (hs 0 x s rfl h0) fun s' p => ?_
    exact ih (P := fun i => P (i + 1)) p fun i y s hy q => hs (i + 1) y s (by simpa using hy) q
theorem Gv.forR {P : Nat → σ → Prop} {xs : List α} {s : σ} {f : σ → α → Rx (Lp σ ρ)} (h0 : P 0 s) (hs : ∀ i x s, xs[i]? = some x → P i s → Gv (f s x) (fun l => ∃ s', l = .go s' ∧ P (i + 1) s')) : Gv (Vx.forR xs s f) (fun l => ∃ s', l = .go s' ∧ P xs.length s') := by
  induction xs generalizing s P with
  | nil => exact .ok ⟨s, rfl, h0⟩
  | cons x r ih =>
    refine Gv.bind (hs 0 x s rfl h0) ?_
    rintro _ ⟨s', rfl, p⟩
    exact ih (P := fun i => P (i + 1)) p fun i y s hy q => hs (i + 1) y s (by simpa using hy) q
/-- a loop that carries nothing -/
theorem forR_unit {xs : List α} {f : Unit → α → Rx (Lp Unit ρ)} (h : ∀ x ∈ xs, f () x = .ok (.go ())) : Vx.forR xs () f = .ok (.go ()) := by
  induction xs with
  | nil => rfl
  | cons x r ih =>
    show (f () x).bind _ = _
    rw [h x List.mem_cons_self]
    exact ih fun y hy => h y (List.mem_cons_of_mem _ hy)
theorem forS_pure {xs : List α} {s : σ} {f : σ → α → Rx σ} {g : σ → α → σ} (h : ∀ s x, x ∈ xs → f s x = .ok (g s x)) : Vx.forS xs s f = .ok (xs.foldl g s) := by
  induction xs generalizing s with
  | nil => rfl
  | cons x r ih =>
    show (f s x).bind _ = _
    rw [h s x List.mem_cons_self]
    exact ih fun s y hy => h s y (List.mem_cons_of_mem _ hy)
theorem mapA_pure {xs : List α} {acc : List β} {f : α → Rx β} {g : α → β} (h : ∀ x ∈ xs, f x = .ok (g x)) (hl : acc.length + xs.length ≤ 1000000) : mapA xs acc f = .ok (acc ++ xs.map g) := by
  induction xs generalizing acc with
  | nil => simp [mapA]
  | cons x r ih =>
    rw [List.length_cons] at hl
    unfold mapA
    rw [grd_pos (by omega), h x List.mem_cons_self, bind_ok, ih (fun y hy => h y (List.mem_cons_of_mem _ hy)) (by rw [List.length_append, List.length_cons, List.length_nil]; omega)]
    simp
theorem mapA_pure0 {xs : List α} {f : α → Rx β} {g : α → β} (h : ∀ x ∈ xs, f x = .ok (g x)) (hl : xs.length ≤ 1000000) : mapA xs [] f = .ok (xs.map g) := by
  rw [mapA_pure h (by simpa using hl)]
  rfl
theorem mapF_pure {xs : List α} {acc : List β} {f : α → Rx (Option β)} {g : α → Option β} (h : ∀ x ∈ xs, f x = .ok (g x)) (hl : acc.length + xs.length ≤ 1000000) : mapF xs acc f = .ok (acc ++ xs.filterMap g) := by
  induction xs generalizing acc with
  | nil => simp [mapF]
  | cons x r ih =>
    rw [List.length_cons] at hl
    unfold mapF
    rw [grd_pos (by omega), h x List.mem_cons_self, bind_ok]
    cases e : g x with
    | none =>
      show mapF r acc f = _
      rw [ih (fun y hy => h y (List.mem_cons_of_mem _ hy)) (by omega), List.filterMap_cons, e]
    | some z =>
      show mapF r (acc ++ [z]) f = _
      rw [ih (fun y hy => h y (List.mem_cons_of_mem _ hy)) (by rw [List.length_append, List.length_cons, List.length_nil]; omega), List.filterMap_cons, e]
      simp
/-- a while that ends: m falls -/
theorem Gv.whileR {P : σ → Prop} {R : σ → Prop} (m : σ → Nat) {f : σ → Rx (Lp σ ρ)} (hs : ∀ s, P s → Gv (f s) (fun l => (∃ s', l = .go s' ∧ P s' ∧ m s' < m s) ∨ ∃ s', l = .bk s' ∧ R s')) : ∀ {n : Nat} {s : σ}, P s → m s < n → Gv (Vx.whileR n s f) (fun l => ∃ s', l = .go s' ∧ R s') := by
  intro n
  induction n with
  | zero => intro s _ h; exact absurd h (Nat.not_lt_zero _)
  | succ n ih =>
    intro s p h
    refine Gv.bind (hs s p) ?_
    rintro _ (⟨s', rfl, p', l⟩ | ⟨s', rfl, r⟩)
    · exact ih p' (by omega)
    · exact .ok ⟨s', rfl, r⟩
end
/-- a loop that may return -/
theorem Gv.forRR {α σ ρ : Type} {P : Nat → σ → Prop} {Q : ρ → Prop} {xs : List α} {s : σ} {f : σ → α → Rx (Lp σ ρ)} (h0 : P 0 s) (hs : ∀ i x s, xs[i]? = some x → P i s → Gv (f s x) (fun l => (∃ s', l = .go s' ∧ P (i + 1) s') ∨ ∃ r, l = .rt r ∧ Q r)) : Gv (Vx.forR xs s f) (fun l => (∃ s', l = .go s' ∧ P xs.length s') ∨ ∃ r, l = .rt r ∧ Q r) := by
  induction xs generalizing s P with
  | nil => exact .ok (.inl ⟨s, rfl, h0⟩)
  | cons x r ih =>
    refine Gv.bind (hs 0 x s rfl h0) ?_
    rintro _ (⟨s', rfl, p⟩ | ⟨r, rfl, q⟩)
    · exact ih (P := fun i => P (i + 1)) p fun i y s hy q => hs (i + 1) y s (by simpa using hy) q
    · exact .ok (.inr ⟨r, rfl, q⟩)
theorem rng_mem {lo x : Int} {n : Nat} (h : x ∈ rng lo n) : lo ≤ x ∧ x < lo + n := by
  unfold rng at h
  obtain ⟨j, hj, rfl⟩ := List.mem_map.mp h
  have := List.mem_range.mp hj
  omega
theorem rng_at {lo x : Int} {n i : Nat} (h : (rng lo n)[i]? = some x) : x = lo + i ∧ i < n := by
  have hl := get_len h
  rw [rng_len] at hl
  rw [rng_get hl] at h
  exact ⟨(Option.some.inj h).symm, hl⟩
end Vx
namespace Vx
open PySem PySem.Spec PyProof.Rows L2
structure St_MotionGrid where
  width : Int
  height : Int
  lines : (List (List PyData))
def F__law_draws_b1 (free_15 : Bool) (found_33 : (List Int)) (rest_34 : Int) (state_35 : Int) (it38 : Int) : Rx ((List Int) × Int × Int) :=
  (if free_15 = true then (if 1 < rest_34 then grd (0 < (it38 : Int)) <| grd ((found_33).length ≤ 1000000) <| bnd ((found_33) ++ [(rest_34 % it38)]) fun y49 => grd (0 < (it38 : Int) ∧ (it38 : Int) < 2 ^ 128) <| bnd ((rest_34 / it38)) fun rest_51 => .ok ((y49), (rest_51), (state_35)) else bnd ((((state_35 * 48271) + 11) % 2147483647)) fun state_52 => bnd ((((state_52 * 69621) + 7) % 2147483647)) fun state_53 => grd (0 < (it38 : Int)) <| grd ((found_33).length ≤ 1000000) <| bnd ((found_33) ++ [((state_53 / 13) % it38)]) fun y62 => .ok ((y62), (rest_34), (state_53))) else bnd ((((state_35 * 48271) + 11) % 2147483647)) fun state_63 => bnd ((((state_63 * 69621) + 7) % 2147483647)) fun state_64 => grd (0 < (it38 : Int)) <| grd ((found_33).length ≤ 1000000) <| bnd ((found_33) ++ [((state_64 / 13) % it38)]) fun y73 => .ok ((y73), (rest_34), (state_64)))

def F__law_draws_r1 (found_79 : (List Int)) (rest_80 : Int) (state_81 : Int) : Rx (List Int) :=
  .ok (found_79)

def F__law_draws (cell' : Int) (limits' : (List Int)) : Rx (List Int) :=
  bnd ((if cell' < 0 then -cell' else cell')) fun rest_10 => bnd ((rest_10 % 2147483647)) fun state_11 => bnd ((decide (cell' < 0) || decide (((10 : Int) ^ Int.toNat 18) ≤ cell'))) fun free_14 => Rx.bind (forS (limits') ((([] : (List Int))), (rest_10), (state_11)) (fun s x => F__law_draws_b1 (free_14) (s.1) (s.2.1) (s.2.2) x)) fun s => F__law_draws_r1  (s.1) (s.2.1) (s.2.2)

def F_MotionGrid___init___c1 (_width_97 : Int) (_height_98 : Int) (it129 : Int) : Rx (List PyData) :=
  grd (-(2 ^ 63) ≤ (_width_97 : Int) ∧ (_width_97 : Int) < 2 ^ 63 ∧ ([(encN (()))] : (List PyData)).length * Int.toNat (_width_97) ≤ 1000000) <| .ok (repL ([(encN (()))]) (_width_97))

def F_MotionGrid___init__ (columns' : Int) (rows' : Int) : Rx St_MotionGrid :=
  bnd ((2 * columns')) fun _width_82 => bnd ((2 * rows')) fun _height_89 => grd (-(2 ^ 62) ≤ (_height_89 : Int) ∧ (_height_89 : Int) < 2 ^ 62) <| Rx.bind (mapA (rng (0) (Int.toNat (_height_89))) [] (fun x => noEr (F_MotionGrid___init___c1 (_width_82) (_height_89) x))) fun v99 => .ok (⟨_width_82, _height_89, v99⟩ : St_MotionGrid)

def F__law_cell (script' : (List Int)) (k' : Int) : Rx Int :=
  (if k' < (((script') : (List Int)).length : Int) then grd (-((script' : (List Int)).length : Int) ≤ k' ∧ k' < ((script' : (List Int)).length : Int)) <| .ok ((itD (script') (k'))) else .ok (0))

def F__law_vector (grid' : (List (List PyData))) (x' : Int) (y' : Int) (second' : Int) : Rx (Int × Int) :=
  (if x' < 0 then .ok ((0, 0)) else (if y' < 0 then .ok ((0, 0)) else (if (((grid') : (List (List PyData))).length : Int) ≤ y' then .ok ((0, 0)) else grd (-((grid' : (List (List PyData))).length : Int) ≤ 0 ∧ 0 < ((grid' : (List (List PyData))).length : Int)) <| (if ((((itD (grid') (0))) : (List PyData)).length : Int) ≤ x' then .ok ((0, 0)) else grd (-((grid' : (List (List PyData))).length : Int) ≤ y' ∧ y' < ((grid' : (List (List PyData))).length : Int)) <| grd (-(((itD (grid') (y')) : (List PyData)).length : Int) ≤ x' ∧ x' < (((itD (grid') (y')) : (List PyData)).length : Int)) <| (if (dNone ((itD ((itD (grid') (y'))) (x')))) = true then .ok ((0, 0)) else grd (-((grid' : (List (List PyData))).length : Int) ≤ y' ∧ y' < ((grid' : (List (List PyData))).length : Int)) <| grd (-(((itD (grid') (y')) : (List PyData)).length : Int) ≤ x' ∧ x' < (((itD (grid') (y')) : (List PyData)).length : Int)) <| grd ((0 : Int) ≤ (2 + second') ∧ dHasT ((itD ((itD (grid') (y'))) (x'))) (Int.toNat ((2 + second'))) = true) <| (if (dNone ((dGet ((itD ((itD (grid') (y'))) (x'))) (Int.toNat ((2 + second')))))) = true then .ok ((0, 0)) else grd (((cT2 cI cI)).ok ((dGet ((itD ((itD (grid') (y'))) (x'))) (Int.toNat ((2 + second'))))) = true) <| .ok ((((cT2 cI cI)).dec ((dGet ((itD ((itD (grid') (y'))) (x'))) (Int.toNat ((2 + second')))))))))))))

def F__law_median (values' : (List Int)) : Rx Int :=
  grd (-(((sortL (values')) : (List Int)).length : Int) ≤ 1 ∧ 1 < (((sortL (values')) : (List Int)).length : Int)) <| .ok ((itD ((sortL (values'))) (1)))

def F__law_predicted_c1 (it463 : (Int × Int)) : Rx Int :=
  .ok it463.1

def F__law_predicted_c2 (it539 : (Int × Int)) : Rx Int :=
  .ok it539.2

def F__law_predicted (grid' : (List (List PyData))) (x' : Int) (y' : Int) (second' : Int) : Rx (Int × Int) :=
  Rx.bind (F__law_vector (grid') ((x' - 1)) y' second') fun v355 => Rx.bind (F__law_vector (grid') x' ((y' - 1)) second') fun v371 => Rx.bind (F__law_vector (grid') ((x' - 1)) ((y' - 1)) second') fun v387 => Rx.bind (mapA ([v355, v371, v387]) [] (fun x => noEr (F__law_predicted_c1  x))) fun v413 => Rx.bind (F__law_median (v413)) fun v484 => Rx.bind (mapA ([v355, v371, v387]) [] (fun x => noEr (F__law_predicted_c2  x))) fun v489 => Rx.bind (F__law_median (v489)) fun v560 => .ok ((v484, v560))

def F__law_component (first' : Int) (second' : Int) : Rx Int :=
  grd (-(([0, 1023, (-1023), 4, ((second' % 9) - 4), ((second' % 65) - 32), ((second' % 2047) - 1023)] : (List Int)).length : Int) ≤ first' ∧ first' < (([0, 1023, (-1023), 4, ((second' % 9) - 4), ((second' % 65) - 32), ((second' % 2047) - 1023)] : (List Int)).length : Int)) <| .ok ((itD ([0, 1023, (-1023), 4, ((second' % 9) - 4), ((second' % 65) - 32), ((second' % 2047) - 1023)]) (first')))

def F__law_motion (cell' : Int) (kind' : Int) (refs' : Int) : Rx PyData :=
  Rx.bind (F__law_draws cell' ([3, 2, 7, 2047, 7, 2047, 7, 2047, 7, 2047])) fun v595 => grd (-((v595 : (List Int)).length : Int) ≤ 2 ∧ 2 < ((v595 : (List Int)).length : Int)) <| grd (-((v595 : (List Int)).length : Int) ≤ 3 ∧ 3 < ((v595 : (List Int)).length : Int)) <| Rx.bind (F__law_component ((itD (v595) (2))) ((itD (v595) (3)))) fun v606 => grd (-((v595 : (List Int)).length : Int) ≤ 4 ∧ 4 < ((v595 : (List Int)).length : Int)) <| grd (-((v595 : (List Int)).length : Int) ≤ 5 ∧ 5 < ((v595 : (List Int)).length : Int)) <| Rx.bind (F__law_component ((itD (v595) (4))) ((itD (v595) (5)))) fun v613 => grd (-((v595 : (List Int)).length : Int) ≤ 6 ∧ 6 < ((v595 : (List Int)).length : Int)) <| grd (-((v595 : (List Int)).length : Int) ≤ 7 ∧ 7 < ((v595 : (List Int)).length : Int)) <| Rx.bind (F__law_component ((itD (v595) (6))) ((itD (v595) (7)))) fun v632 => grd (-((v595 : (List Int)).length : Int) ≤ 8 ∧ 8 < ((v595 : (List Int)).length : Int)) <| grd (-((v595 : (List Int)).length : Int) ≤ 9 ∧ 9 < ((v595 : (List Int)).length : Int)) <| Rx.bind (F__law_component ((itD (v595) (8))) ((itD (v595) (9)))) fun v639 => (if (kind' : Int) = 1 then grd (-((v595 : (List Int)).length : Int) ≤ 1 ∧ 1 < ((v595 : (List Int)).length : Int)) <| grd (0 < (refs' : Int)) <| .ok (((encT4 PyData.int PyData.int (encT2 PyData.int PyData.int) encN) ((0, ((itD (v595) (1)) % refs'), (v606, v613), ())))) else grd (-((v595 : (List Int)).length : Int) ≤ 0 ∧ 0 < ((v595 : (List Int)).length : Int)) <| (if ((itD (v595) (0)) : Int) = 0 then .ok (((encT4 PyData.int PyData.int (encT2 PyData.int PyData.int) encN) ((0, 0, (v606, v613), ())))) else grd (-((v595 : (List Int)).length : Int) ≤ 0 ∧ 0 < ((v595 : (List Int)).length : Int)) <| (if ((itD (v595) (0)) : Int) = 1 then .ok (((encT4 PyData.int PyData.int encN (encT2 PyData.int PyData.int)) ((1, 0, (), (v632, v639))))) else .ok (((encT4 PyData.int PyData.int (encT2 PyData.int PyData.int) (encT2 PyData.int PyData.int)) ((2, 0, (v606, v613), (v632, v639))))))))

def F_MotionGrid__has (self' : St_MotionGrid) (x' : Int) (y' : Int) : Rx Bool :=
  (if 0 ≤ x' then (if decide (x' < self'.width) = true then (if 0 ≤ y' then .ok (decide (y' < self'.height)) else .ok (false)) else .ok (false)) else .ok (false))

def F_MotionGrid_keep_quarter (self' : St_MotionGrid) (x' : Int) (y' : Int) (motion' : PyData) : Rx St_MotionGrid :=
  Rx.bind (F_MotionGrid__has (self') x' y') fun v719 => (if v719 = true then grd (-((self'.lines : (List (List PyData))).length : Int) ≤ y' ∧ y' < ((self'.lines : (List (List PyData))).length : Int)) <| grd (-(((itD (self'.lines) (y'))).length : Int) ≤ x' ∧ x' < (((itD (self'.lines) (y'))).length : Int)) <| bnd (setL (self'.lines) (y') (setL ((itD (self'.lines) (y'))) (x') (motion'))) fun y756 => .ok (⟨self'.width, self'.height, y756⟩ : St_MotionGrid) else .ok self')

def F_MotionGrid_keep_b1 (column_786 : Int) (row_787 : Int) (self_842 : St_MotionGrid) (it845 : (Int × PyData)) : Rx (St_MotionGrid) :=
  Rx.bind (noEr (F_MotionGrid_keep_quarter (self_842) (((2 * column_786) + (it845.1 % 2))) (((2 * row_787) + (it845.1 / 2))) (it845.2))) fun v849 => .ok (v849)

def F_MotionGrid_keep_r1 (self_888 : St_MotionGrid) : Rx St_MotionGrid :=
  .ok self_888

def F_MotionGrid_keep_b2 (column_889 : Int) (row_890 : Int) (self_940 : St_MotionGrid) (it943 : (Int × PyData)) : Rx (St_MotionGrid) :=
  Rx.bind (noEr (F_MotionGrid_keep_quarter (self_940) (((2 * column_889) + (it943.1 % 2))) (((2 * row_890) + (it943.1 / 2))) (it943.2))) fun v947 => .ok (v947)

def F_MotionGrid_keep_r2 (self_983 : St_MotionGrid) : Rx St_MotionGrid :=
  .ok self_983

def F_MotionGrid_keep_b3 (column_1002 : Int) (row_1003 : Int) (self_1053 : St_MotionGrid) (it1056 : (Int × PyData)) : Rx (St_MotionGrid) :=
  Rx.bind (noEr (F_MotionGrid_keep_quarter (self_1053) (((2 * column_1002) + (it1056.1 % 2))) (((2 * row_1003) + (it1056.1 / 2))) (it1056.2))) fun v1060 => .ok (v1060)

def F_MotionGrid_keep_r3 (self_1096 : St_MotionGrid) : Rx St_MotionGrid :=
  .ok self_1096

def F_MotionGrid_keep_b4 (column_1097 : Int) (row_1098 : Int) (self_1146 : St_MotionGrid) (it1149 : (Int × PyData)) : Rx (St_MotionGrid) :=
  Rx.bind (noEr (F_MotionGrid_keep_quarter (self_1146) (((2 * column_1097) + (it1149.1 % 2))) (((2 * row_1098) + (it1149.1 / 2))) (it1149.2))) fun v1153 => .ok (v1153)

def F_MotionGrid_keep_r4 (self_1187 : St_MotionGrid) : Rx St_MotionGrid :=
  .ok self_1187

def F_MotionGrid_keep (self' : St_MotionGrid) (column' : Int) (row' : Int) (motions' : (Option (List PyData))) : Rx St_MotionGrid :=
  optE (motions') ((if (((([(encN (()))]) : (List PyData)).length : Int) : Int) = 1 then grd (-(2 ^ 63) ≤ (4 : Int) ∧ (4 : Int) < 2 ^ 63 ∧ ([(encN (()))] : (List PyData)).length * Int.toNat (4) ≤ 1000000) <| Rx.bind (forS (enumL (repL ([(encN (()))]) (4))) (self') (fun s x => F_MotionGrid_keep_b1 (column') (row') s x)) fun s => F_MotionGrid_keep_r1  s else Rx.bind (forS (enumL ([(encN (()))])) (self') (fun s x => F_MotionGrid_keep_b2 (column') (row') s x)) fun s => F_MotionGrid_keep_r2  s)) (fun motions_984 => (if ((((motions_984) : (List PyData)).length : Int) : Int) = 1 then grd (-(2 ^ 63) ≤ (4 : Int) ∧ (4 : Int) < 2 ^ 63 ∧ (motions_984 : (List PyData)).length * Int.toNat (4) ≤ 1000000) <| Rx.bind (forS (enumL (repL (motions_984) (4))) (self') (fun s x => F_MotionGrid_keep_b3 (column') (row') s x)) fun s => F_MotionGrid_keep_r3  s else Rx.bind (forS (enumL (motions_984)) (self') (fun s x => F_MotionGrid_keep_b4 (column') (row') s x)) fun s => F_MotionGrid_keep_r4  s))

def F__law_keep_c1 (draws_1214 : (List Int)) (kind_1215 : Int) (it1256 : Int) : Rx PyData :=
  grd (-((draws_1214 : (List Int)).length : Int) ≤ (6 + it1256) ∧ (6 + it1256) < ((draws_1214 : (List Int)).length : Int)) <| Rx.bind (F__law_motion ((itD (draws_1214) ((6 + it1256)))) kind_1215 2) fun v1258 => .ok v1258

def F__law_keep_b2 (draws_1397 : (List Int)) (column_1398 : Int) (row_1399 : Int) (motions_1400 : (List PyData)) (grid_1436 : (List (List PyData))) (it1439 : Int) : Rx ((List (List PyData))) :=
  grd (-((motions_1400 : (List PyData)).length : Int) ≤ 0 ∧ 0 < ((motions_1400 : (List PyData)).length : Int)) <| grd (-((motions_1400 : (List PyData)).length : Int) ≤ it1439 ∧ it1439 < ((motions_1400 : (List PyData)).length : Int)) <| grd (-((draws_1397 : (List Int)).length : Int) ≤ 0 ∧ 0 < ((draws_1397 : (List Int)).length : Int)) <| grd (-(([(encN (())), (itD (motions_1400) (0)), (itD (motions_1400) (it1439))] : (List PyData)).length : Int) ≤ (itD (draws_1397) (0)) ∧ (itD (draws_1397) (0)) < (([(encN (())), (itD (motions_1400) (0)), (itD (motions_1400) (it1439))] : (List PyData)).length : Int)) <| grd (-((grid_1436 : (List (List PyData))).length : Int) ≤ ((2 * row_1399) + (it1439 / 2)) ∧ ((2 * row_1399) + (it1439 / 2)) < ((grid_1436 : (List (List PyData))).length : Int)) <| grd (-(((itD (grid_1436) (((2 * row_1399) + (it1439 / 2))))).length : Int) ≤ ((2 * column_1398) + (it1439 % 2)) ∧ ((2 * column_1398) + (it1439 % 2)) < (((itD (grid_1436) (((2 * row_1399) + (it1439 / 2))))).length : Int)) <| bnd (setL (grid_1436) (((2 * row_1399) + (it1439 / 2))) (setL ((itD (grid_1436) (((2 * row_1399) + (it1439 / 2))))) (((2 * column_1398) + (it1439 % 2))) ((itD ([(encN (())), (itD (motions_1400) (0)), (itD (motions_1400) (it1439))]) ((itD (draws_1397) (0))))))) fun y1496 => .ok (y1496)

def F__law_keep_k3 (actual_1545 : St_MotionGrid) (grid_1546 : (List (List PyData))) : Rx (Bool × St_MotionGrid × (List (List PyData))) :=
  .ok (true, actual_1545, grid_1546)

def F__law_keep_r2 (actual_1401 : St_MotionGrid) (column_1402 : Int) (row_1403 : Int) (grid_1521 : (List (List PyData))) : Rx (Bool × St_MotionGrid × (List (List PyData))) :=
  Rx.bind (noEr (F_MotionGrid_keep (actual_1401) column_1402 row_1403 none)) fun v1522 => Rx.bind ((.ok () : Rx Unit)) fun s => F__law_keep_k3 (v1522) (grid_1521) 

def F__law_keep_b4 (draws_1566 : (List Int)) (column_1567 : Int) (row_1568 : Int) (motions_1569 : (List PyData)) (grid_1609 : (List (List PyData))) (it1612 : Int) : Rx ((List (List PyData))) :=
  grd (-((motions_1569 : (List PyData)).length : Int) ≤ 0 ∧ 0 < ((motions_1569 : (List PyData)).length : Int)) <| grd (-((motions_1569 : (List PyData)).length : Int) ≤ it1612 ∧ it1612 < ((motions_1569 : (List PyData)).length : Int)) <| grd (-((draws_1566 : (List Int)).length : Int) ≤ 0 ∧ 0 < ((draws_1566 : (List Int)).length : Int)) <| grd (-(([(encN (())), (itD (motions_1569) (0)), (itD (motions_1569) (it1612))] : (List PyData)).length : Int) ≤ (itD (draws_1566) (0)) ∧ (itD (draws_1566) (0)) < (([(encN (())), (itD (motions_1569) (0)), (itD (motions_1569) (it1612))] : (List PyData)).length : Int)) <| grd (-((grid_1609 : (List (List PyData))).length : Int) ≤ ((2 * row_1568) + (it1612 / 2)) ∧ ((2 * row_1568) + (it1612 / 2)) < ((grid_1609 : (List (List PyData))).length : Int)) <| grd (-(((itD (grid_1609) (((2 * row_1568) + (it1612 / 2))))).length : Int) ≤ ((2 * column_1567) + (it1612 % 2)) ∧ ((2 * column_1567) + (it1612 % 2)) < (((itD (grid_1609) (((2 * row_1568) + (it1612 / 2))))).length : Int)) <| bnd (setL (grid_1609) (((2 * row_1568) + (it1612 / 2))) (setL ((itD (grid_1609) (((2 * row_1568) + (it1612 / 2))))) (((2 * column_1567) + (it1612 % 2))) ((itD ([(encN (())), (itD (motions_1569) (0)), (itD (motions_1569) (it1612))]) ((itD (draws_1566) (0))))))) fun y1669 => .ok (y1669)

def F__law_keep_k5 (actual_1721 : St_MotionGrid) (grid_1722 : (List (List PyData))) : Rx (Bool × St_MotionGrid × (List (List PyData))) :=
  .ok (true, actual_1721, grid_1722)

def F__law_keep_r4 (actual_1570 : St_MotionGrid) (column_1571 : Int) (row_1572 : Int) (given_1573 : (List PyData)) (grid_1697 : (List (List PyData))) : Rx (Bool × St_MotionGrid × (List (List PyData))) :=
  Rx.bind (noEr (F_MotionGrid_keep (actual_1570) column_1571 row_1572 (some (given_1573)))) fun v1698 => Rx.bind ((grd ((given_1573).length ≤ 1000000) <| bnd ((given_1573) ++ [(encN (()))]) fun y1736 => grd (-((y1736).length : Int) ≤ 0 ∧ 0 < ((y1736).length : Int)) <| bnd (setL (y1736) (0) (((encT4 PyData.int PyData.int (encT2 PyData.int PyData.int) encN) ((0, 0, (77, 77), ()))))) fun y1771 => .ok () : Rx Unit)) fun s => F__law_keep_k5 (v1698) (grid_1697) 

def F__law_keep_b6 (draws_1791 : (List Int)) (column_1792 : Int) (row_1793 : Int) (motions_1794 : (List PyData)) (grid_1831 : (List (List PyData))) (it1834 : Int) : Rx ((List (List PyData))) :=
  grd (-((motions_1794 : (List PyData)).length : Int) ≤ 0 ∧ 0 < ((motions_1794 : (List PyData)).length : Int)) <| grd (-((motions_1794 : (List PyData)).length : Int) ≤ it1834 ∧ it1834 < ((motions_1794 : (List PyData)).length : Int)) <| grd (-((draws_1791 : (List Int)).length : Int) ≤ 0 ∧ 0 < ((draws_1791 : (List Int)).length : Int)) <| grd (-(([(encN (())), (itD (motions_1794) (0)), (itD (motions_1794) (it1834))] : (List PyData)).length : Int) ≤ (itD (draws_1791) (0)) ∧ (itD (draws_1791) (0)) < (([(encN (())), (itD (motions_1794) (0)), (itD (motions_1794) (it1834))] : (List PyData)).length : Int)) <| grd (-((grid_1831 : (List (List PyData))).length : Int) ≤ ((2 * row_1793) + (it1834 / 2)) ∧ ((2 * row_1793) + (it1834 / 2)) < ((grid_1831 : (List (List PyData))).length : Int)) <| grd (-(((itD (grid_1831) (((2 * row_1793) + (it1834 / 2))))).length : Int) ≤ ((2 * column_1792) + (it1834 % 2)) ∧ ((2 * column_1792) + (it1834 % 2)) < (((itD (grid_1831) (((2 * row_1793) + (it1834 / 2))))).length : Int)) <| bnd (setL (grid_1831) (((2 * row_1793) + (it1834 / 2))) (setL ((itD (grid_1831) (((2 * row_1793) + (it1834 / 2))))) (((2 * column_1792) + (it1834 % 2))) ((itD ([(encN (())), (itD (motions_1794) (0)), (itD (motions_1794) (it1834))]) ((itD (draws_1791) (0))))))) fun y1891 => .ok (y1891)

def F__law_keep_k7 (actual_1940 : St_MotionGrid) (grid_1941 : (List (List PyData))) : Rx (Bool × St_MotionGrid × (List (List PyData))) :=
  .ok (true, actual_1940, grid_1941)

def F__law_keep_r6 (actual_1795 : St_MotionGrid) (column_1796 : Int) (row_1797 : Int) (given_1798 : (List PyData)) (grid_1916 : (List (List PyData))) : Rx (Bool × St_MotionGrid × (List (List PyData))) :=
  Rx.bind (noEr (F_MotionGrid_keep (actual_1795) column_1796 row_1797 (some (given_1798)))) fun v1917 => Rx.bind ((grd ((given_1798).length ≤ 1000000) <| bnd ((given_1798) ++ [(encN (()))]) fun y1956 => grd (-((y1956).length : Int) ≤ 0 ∧ 0 < ((y1956).length : Int)) <| bnd (setL (y1956) (0) (((encT4 PyData.int PyData.int (encT2 PyData.int PyData.int) encN) ((0, 0, (77, 77), ()))))) fun y1991 => .ok () : Rx Unit)) fun s => F__law_keep_k7 (v1917) (grid_1916) 

def F__law_keep (actual' : St_MotionGrid) (grid' : (List (List PyData))) (cell' : Int) (columns' : Int) (rows' : Int) : Rx (Bool × St_MotionGrid × (List (List PyData))) :=
  Rx.bind (F__law_draws cell' ([4, 4, 4, 2, 2, 2, 1000000000, 1000000000, 1000000000, 1000000000])) fun v1197 => grd (-((v1197 : (List Int)).length : Int) ≤ 1 ∧ 1 < ((v1197 : (List Int)).length : Int)) <| grd (0 < (columns' : Int)) <| bnd (((itD (v1197) (1)) % columns')) fun column_1208 => grd (-((v1197 : (List Int)).length : Int) ≤ 2 ∧ 2 < ((v1197 : (List Int)).length : Int)) <| grd (0 < (rows' : Int)) <| bnd (((itD (v1197) (2)) % rows')) fun row_1211 => grd (-((v1197 : (List Int)).length : Int) ≤ 3 ∧ 3 < ((v1197 : (List Int)).length : Int)) <| bnd ((1 + (itD (v1197) (3)))) fun kind_1213 => Rx.bind (mapA (rng (0) (Int.toNat (4))) [] (fun x => noEr (F__law_keep_c1 (v1197) (kind_1213) x))) fun v1216 => grd (-((v1197 : (List Int)).length : Int) ≤ 0 ∧ 0 < ((v1197 : (List Int)).length : Int)) <| (if ((itD (v1197) (0)) : Int) = 3 then grd (-((v1197 : (List Int)).length : Int) ≤ 4 ∧ 4 < ((v1197 : (List Int)).length : Int)) <| grd (-((v1197 : (List Int)).length : Int) ≤ 5 ∧ 5 < ((v1197 : (List Int)).length : Int)) <| grd (-((v1216 : (List PyData)).length : Int) ≤ 0 ∧ 0 < ((v1216 : (List PyData)).length : Int)) <| Rx.bind (F_MotionGrid_keep_quarter (actual') (((2 * column_1208) + (itD (v1197) (4)))) (((2 * row_1211) + (itD (v1197) (5)))) ((itD (v1216) (0)))) fun v1307 => grd (-((v1216 : (List PyData)).length : Int) ≤ 0 ∧ 0 < ((v1216 : (List PyData)).length : Int)) <| grd (-((v1197 : (List Int)).length : Int) ≤ 5 ∧ 5 < ((v1197 : (List Int)).length : Int)) <| grd (-((grid' : (List (List PyData))).length : Int) ≤ ((2 * row_1211) + (itD (v1197) (5))) ∧ ((2 * row_1211) + (itD (v1197) (5))) < ((grid' : (List (List PyData))).length : Int)) <| grd (-((v1197 : (List Int)).length : Int) ≤ 4 ∧ 4 < ((v1197 : (List Int)).length : Int)) <| grd (-(((itD (grid') (((2 * row_1211) + (itD (v1197) (5)))))).length : Int) ≤ ((2 * column_1208) + (itD (v1197) (4))) ∧ ((2 * column_1208) + (itD (v1197) (4))) < (((itD (grid') (((2 * row_1211) + (itD (v1197) (5)))))).length : Int)) <| bnd (setL (grid') (((2 * row_1211) + (itD (v1197) (5)))) (setL ((itD (grid') (((2 * row_1211) + (itD (v1197) (5)))))) (((2 * column_1208) + (itD (v1197) (4)))) ((itD (v1216) (0))))) fun y1369 => .ok (true, v1307, y1369) else grd (-((v1197 : (List Int)).length : Int) ≤ 0 ∧ 0 < ((v1197 : (List Int)).length : Int)) <| grd ((0 : Int) ≤ (itD (v1197) (0)) ∧ (itD (v1197) (0)) < 3) <| (if ((itD (v1197) (0)) : Int) = 0 then Rx.bind (forS (rng (0) (Int.toNat (4))) (grid') (fun s x => F__law_keep_b2 (v1197) (column_1208) (row_1211) (v1216) s x)) fun s => F__law_keep_r2 (actual') (column_1208) (row_1211) s else (if ((itD (v1197) (0)) : Int) = 1 then Rx.bind (forS (rng (0) (Int.toNat (4))) (grid') (fun s x => F__law_keep_b4 (v1197) (column_1208) (row_1211) (v1216) s x)) fun s => F__law_keep_r4 (actual') (column_1208) (row_1211) (cutL (v1216) none (some (1))) s else Rx.bind (forS (rng (0) (Int.toNat (4))) (grid') (fun s x => F__law_keep_b6 (v1197) (column_1208) (row_1211) (v1216) s x)) fun s => F__law_keep_r6 (actual') (column_1208) (row_1211) (v1216) s)))

def F__median (numbers' : (List Int)) : Rx Int :=
  grd (-(((sortL (numbers')) : (List Int)).length : Int) ≤ 1 ∧ 1 < (((sortL (numbers')) : (List Int)).length : Int)) <| .ok ((itD ((sortL (numbers'))) (1)))

def F_MotionGrid_motion_at (self' : St_MotionGrid) (x' : Int) (y' : Int) : Rx PyData :=
  Rx.bind (F_MotionGrid__has (self') x' y') fun v2018 => (if v2018 = true then grd (-((self'.lines : (List (List PyData))).length : Int) ≤ y' ∧ y' < ((self'.lines : (List (List PyData))).length : Int)) <| grd (-(((itD (self'.lines) (y')) : (List PyData)).length : Int) ≤ x' ∧ x' < (((itD (self'.lines) (y')) : (List PyData)).length : Int)) <| .ok ((itD ((itD (self'.lines) (y'))) (x'))) else .ok ((encN (()))))

def F_MotionGrid__vector_at (self' : St_MotionGrid) (x' : Int) (y' : Int) (place' : Int) : Rx (Int × Int) :=
  Rx.bind (F_MotionGrid_motion_at (self') x' y') fun v2049 => (if (dNone (v2049)) = true then .ok ((0, 0)) else grd ((0 : Int) ≤ place' ∧ dHasT (v2049) (Int.toNat (place')) = true) <| (if (dNone ((dGet (v2049) (Int.toNat (place'))))) = true then .ok ((0, 0)) else grd ((0 : Int) ≤ place' ∧ dHasT (v2049) (Int.toNat (place')) = true) <| grd (((cT2 cI cI)).ok ((dGet (v2049) (Int.toNat (place')))) = true) <| .ok ((((cT2 cI cI)).dec ((dGet (v2049) (Int.toNat (place'))))))))

def F_MotionGrid_predicted_c1 (it2221 : (Int × Int)) : Rx Int :=
  .ok it2221.1

def F_MotionGrid_predicted_c2 (it2297 : (Int × Int)) : Rx Int :=
  .ok it2297.2

def F_MotionGrid_predicted (self' : St_MotionGrid) (x' : Int) (y' : Int) (second' : Bool) : Rx (Int × Int) :=
  bnd ((if second' = true then 3 else 2)) fun place_2112 => Rx.bind (F_MotionGrid__vector_at (self') ((x' - 1)) y' place_2112) fun v2113 => Rx.bind (F_MotionGrid__vector_at (self') x' ((y' - 1)) place_2112) fun v2129 => Rx.bind (F_MotionGrid__vector_at (self') ((x' - 1)) ((y' - 1)) place_2112) fun v2145 => Rx.bind (mapA ([v2113, v2129, v2145]) [] (fun x => noEr (F_MotionGrid_predicted_c1  x))) fun v2171 => Rx.bind (F__median (v2171)) fun v2242 => Rx.bind (mapA ([v2113, v2129, v2145]) [] (fun x => noEr (F_MotionGrid_predicted_c2  x))) fun v2247 => Rx.bind (F__median (v2247)) fun v2318 => .ok ((v2242, v2318))

def F_MotionGrid_skipped (self' : St_MotionGrid) (column' : Int) (row' : Int) (kind' : Str) : Rx (Int × Int × (Int × Int) × PyData) :=
  Rx.bind (F_MotionGrid_predicted (self') ((2 * column')) ((2 * row')) false) fun v2334 => (if V.str (kind') = V.str (("P" : Str)) then .ok ((0, 0, v2334, (encN (())))) else Rx.bind (F_MotionGrid_predicted (self') ((2 * column')) ((2 * row')) true) fun v2364 => .ok ((2, 0, v2334, ((encT2 PyData.int PyData.int) (v2364)))))

def F_law_c1 (columns_2448 : Int) (it2485 : Int) : Rx (List PyData) :=
  grd (-(2 ^ 63) ≤ ((2 * columns_2448) : Int) ∧ ((2 * columns_2448) : Int) < 2 ^ 63 ∧ ([(encN (()))] : (List PyData)).length * Int.toNat ((2 * columns_2448)) ≤ 1000000) <| .ok (repL ([(encN (()))]) ((2 * columns_2448)))

def F_law_b3 (actual_2668 : St_MotionGrid) (grid_2669 : (List (List PyData))) (x_2670 : Int) (y_2671 : Int) (it2706 : Int) : Rx (Lp Unit Bool) :=
  Rx.bind (F_MotionGrid_predicted (actual_2668) x_2670 y_2671 (decide ((it2706 : Int) = 1))) fun v2707 => Rx.bind (F__law_predicted (grid_2669) x_2670 y_2671 it2706) fun v2725 => (if (v2707 : (Int × Int)) = v2725 then .ok (.go ()) else .ok (.rt (false)))

def F_law_b4 (actual_3045 : St_MotionGrid) (it3097 : (Int × Int)) : Rx (Lp Unit Bool) :=
  Rx.bind (F_MotionGrid_motion_at (actual_3045) it3097.1 it3097.2) fun v3098 => (if (!dNone (v3098)) = true then .ok (.rt (false)) else .ok (.go ()))

def F_law_k7 (actual_3186 : St_MotionGrid) (k_3187 : Int) (i_3188 : Int) (due_3189 : PyData) : Rx (Lp Unit Bool) :=
  Rx.bind (F_MotionGrid_motion_at (actual_3186) i_3188 k_3187) fun v3235 => grd (SeqAt.shaped (v3235) = true ∧ SeqAt.shaped (due_3189) = true) <| (if (!PyData.eqv v3235 due_3189) = true then .ok (.rt (false)) else .ok (.go ()))

def F_law_b6 (columns_3160 : Int) (rows_3161 : Int) (actual_3162 : St_MotionGrid) (grid_3163 : (List (List PyData))) (k_3164 : Int) (it3184 : Int) : Rx (Lp Unit Bool) :=
  Rx.bind (((if 0 ≤ it3184 then (if it3184 < (2 * columns_3160) then (if 0 ≤ k_3164 then (if k_3164 < (2 * rows_3161) then grd (-((grid_3163 : (List (List PyData))).length : Int) ≤ k_3164 ∧ k_3164 < ((grid_3163 : (List (List PyData))).length : Int)) <| grd (-(((itD (grid_3163) (k_3164)) : (List PyData)).length : Int) ≤ it3184 ∧ it3184 < (((itD (grid_3163) (k_3164)) : (List PyData)).length : Int)) <| .ok ((itD ((itD (grid_3163) (k_3164))) (it3184))) else .ok ((encN (())))) else .ok ((encN (())))) else .ok ((encN (())))) else .ok ((encN (())))) : Rx (PyData))) fun s => F_law_k7 (actual_3162) (k_3164) (it3184) s

def F_law_r6  : Rx (Lp Unit Bool) :=
  .ok (.go ())

def F_law_b5 (columns_3132 : Int) (rows_3133 : Int) (actual_3134 : St_MotionGrid) (grid_3135 : (List (List PyData))) (it3158 : Int) : Rx (Lp Unit Bool) :=
  grd (-(2 ^ 62) ≤ ((-1) : Int) ∧ ((-1) : Int) < 2 ^ 62 ∧ -(2 ^ 62) ≤ (((2 * columns_3132) + 1) : Int) ∧ (((2 * columns_3132) + 1) : Int) < 2 ^ 62) <| Rx.bind (forR (rng ((-1)) (Int.toNat (((2 * columns_3132) + 1) - (-1)))) () (fun s x => F_law_b6 (columns_3132) (rows_3133) (actual_3134) (grid_3135) (it3158)  x)) fun l => l.aft (fun r => .ok (.rt r)) fun s => F_law_r6  

def F_law_r5 (actual_3136 : St_MotionGrid) (grid_3137 : (List (List PyData))) : Rx (Lp (St_MotionGrid × (List (List PyData))) Bool) :=
  .ok (.go ((actual_3136), (grid_3137)))

def F_law_r4 (columns_3046 : Int) (rows_3047 : Int) (actual_3048 : St_MotionGrid) (grid_3049 : (List (List PyData))) : Rx (Lp (St_MotionGrid × (List (List PyData))) Bool) :=
  grd (-(2 ^ 62) ≤ ((-1) : Int) ∧ ((-1) : Int) < 2 ^ 62 ∧ -(2 ^ 62) ≤ (((2 * rows_3047) + 1) : Int) ∧ (((2 * rows_3047) + 1) : Int) < 2 ^ 62) <| Rx.bind (forR (rng ((-1)) (Int.toNat (((2 * rows_3047) + 1) - (-1)))) () (fun s x => F_law_b5 (columns_3046) (rows_3047) (actual_3048) (grid_3049)  x)) fun l => l.aft (fun r => .ok (.rt r)) fun s => F_law_r5 (actual_3048) (grid_3049) 

def F_law_r3 (columns_2672 : Int) (rows_2673 : Int) (actual_2674 : St_MotionGrid) (grid_2675 : (List (List PyData))) (cell_2676 : Int) (place_2677 : (List Int)) (x_2678 : Int) (y_2679 : Int) : Rx (Lp (St_MotionGrid × (List (List PyData))) Bool) :=
  Rx.bind (F__law_predicted (grid_2675) ((2 * (x_2678 / 2))) ((2 * (y_2679 / 2))) 0) fun v2762 => Rx.bind (F__law_predicted (grid_2675) ((2 * (x_2678 / 2))) ((2 * (y_2679 / 2))) 1) fun v2780 => Rx.bind (F_MotionGrid_skipped (actual_2674) ((x_2678 / 2)) ((y_2679 / 2)) (("P" : Str))) fun v2799 => grd (SeqAt.shaped (((encT4 PyData.int PyData.int (encT2 PyData.int PyData.int) encD) (v2799))) = true ∧ SeqAt.shaped (((encT4 PyData.int PyData.int (encT2 PyData.int PyData.int) encN) ((0, 0, v2762, ())))) = true) <| (if (!PyData.eqv ((encT4 PyData.int PyData.int (encT2 PyData.int PyData.int) encD) (v2799)) ((encT4 PyData.int PyData.int (encT2 PyData.int PyData.int) encN) ((0, 0, v2762, ())))) = true then .ok (.rt (false)) else Rx.bind (F_MotionGrid_predicted (actual_2674) x_2678 y_2679 false) fun v2842 => Rx.bind (F__law_predicted (grid_2675) x_2678 y_2679 0) fun v2860 => (if (v2842 : (Int × Int)) = v2860 then Rx.bind (F_MotionGrid_skipped (actual_2674) ((x_2678 / 2)) ((y_2679 / 2)) (("B" : Str))) fun v2880 => grd (SeqAt.shaped (((encT4 PyData.int PyData.int (encT2 PyData.int PyData.int) encD) (v2880))) = true ∧ SeqAt.shaped (((encT4 PyData.int PyData.int (encT2 PyData.int PyData.int) (encT2 PyData.int PyData.int)) ((2, 0, v2762, v2780)))) = true) <| (if (!PyData.eqv ((encT4 PyData.int PyData.int (encT2 PyData.int PyData.int) encD) (v2880)) ((encT4 PyData.int PyData.int (encT2 PyData.int PyData.int) (encT2 PyData.int PyData.int)) ((2, 0, v2762, v2780)))) = true then .ok (.rt (false)) else Rx.bind (F__law_keep (actual_2674) (grid_2675) cell_2676 columns_2672 rows_2673) fun v2925 => (if v2925.1 = true then grd (-((place_2677 : (List Int)).length : Int) ≤ 2 ∧ 2 < ((place_2677 : (List Int)).length : Int)) <| bnd (((itD (place_2677) (2)) + 2)) fun far_2962 => Rx.bind (forR ([((-far_2962), 0), (x_2678, (-far_2962)), ((((2 * columns_2672) - 1) + far_2962), 0), (x_2678, (((2 * rows_2673) - 1) + far_2962)), ((-far_2962), (-far_2962)), (((2 * columns_2672) + far_2962), y_2679)]) () (fun s x => F_law_b4 (v2925.2.1)  x)) fun l => l.aft (fun r => .ok (.rt r)) fun s => F_law_r4 (columns_2672) (rows_2673) (v2925.2.1) (v2925.2.2)  else .ok (.rt (false)))) else .ok (.rt (false))))

def F_law_b2 (columns_2565 : Int) (rows_2566 : Int) (actual_2639 : St_MotionGrid) (grid_2640 : (List (List PyData))) (it2643 : Int) : Rx (Lp (St_MotionGrid × (List (List PyData))) Bool) :=
  Rx.bind (F__law_draws ((it2643 / 3)) ([10, 10, 4])) fun v2653 => grd (-((v2653 : (List Int)).length : Int) ≤ 0 ∧ 0 < ((v2653 : (List Int)).length : Int)) <| grd (0 < ((2 * columns_2565) : Int)) <| bnd (((itD (v2653) (0)) % (2 * columns_2565))) fun x_2664 => grd (-((v2653 : (List Int)).length : Int) ≤ 1 ∧ 1 < ((v2653 : (List Int)).length : Int)) <| grd (0 < ((2 * rows_2566) : Int)) <| bnd (((itD (v2653) (1)) % (2 * rows_2566))) fun y_2667 => Rx.bind (forR (rng (0) (Int.toNat (2))) () (fun s x => F_law_b3 (actual_2639) (grid_2640) (x_2664) (y_2667)  x)) fun l => l.aft (fun r => .ok (.rt r)) fun s => F_law_r3 (columns_2565) (rows_2566) (actual_2639) (grid_2640) (it2643) (v2653) (x_2664) (y_2667) 

def F_law_r2 (actual_3301 : St_MotionGrid) (grid_3302 : (List (List PyData))) : Rx Bool :=
  .ok (true)

def F_law (script' : (List Int)) : Rx Bool :=
  Rx.bind (F__law_cell (script') 0) fun v2393 => Rx.bind (F__law_draws v2393 ([4, 4])) fun v2403 => grd (-((v2403 : (List Int)).length : Int) ≤ 0 ∧ 0 < ((v2403 : (List Int)).length : Int)) <| bnd ((1 + (itD (v2403) (0)))) fun columns_2413 => grd (-((v2403 : (List Int)).length : Int) ≤ 1 ∧ 1 < ((v2403 : (List Int)).length : Int)) <| bnd ((1 + (itD (v2403) (1)))) fun rows_2415 => Rx.bind (F_MotionGrid___init__ columns_2413 rows_2415) fun v2427 => grd (-(2 ^ 62) ≤ ((2 * rows_2415) : Int) ∧ ((2 * rows_2415) : Int) < 2 ^ 62) <| Rx.bind (mapA (rng (0) (Int.toNat ((2 * rows_2415)))) [] (fun x => noEr (F_law_c1 (columns_2413) x))) fun v2449 => grd (([0]).length + (cutL (script') (some (1)) none).length ≤ 1000000) <| Rx.bind (forR (([0]) ++ (cutL (script') (some (1)) none)) ((v2427), (v2449)) (fun s x => F_law_b2 (columns_2413) (rows_2415) (s.1) (s.2) x)) fun l => l.aft Rx.ok fun s => F_law_r2  (s.1) (s.2)
theorem cell_gv (s : List Int) (k : Int) (h : 0 ≤ k) : Gv (F__law_cell s k) (fun _ => True) := by
  unfold F__law_cell
  exact Gv.ite (fun c => Gv.grd ⟨by omega, c⟩ (.ok trivial)) fun _ => .ok trivial
def Inb : List Int → List Int → Prop
  | [], [] => True
  | v :: vs, l :: ls => 0 ≤ v ∧ v < l ∧ Inb vs ls
  | _, _ => False
theorem Inb.snoc : ∀ {vs ls : List Int} {y l : Int}, Inb vs ls → 0 ≤ y → y < l → Inb (vs ++ [y]) (ls ++ [l])
  | [], [], _, _, _, h0, h1 => ⟨h0, h1, trivial⟩
  | _ :: _, _ :: _, _, _, h, h0, h1 => ⟨h.1, h.2.1, Inb.snoc h.2.2 h0 h1⟩
  | [], _ :: _, _, _, h, _, _ => h.elim
  | _ :: _, [], _, _, h, _, _ => h.elim
theorem Inb.len : ∀ {vs ls : List Int}, Inb vs ls → vs.length = ls.length
  | [], [], _ => rfl
  | _ :: _, _ :: _, h => congrArg Nat.succ (Inb.len h.2.2)
  | [], _ :: _, h => h.elim
  | _ :: _, [], h => h.elim
theorem Inb.cons {v ls : List Int} {l : Int} (h : Inb v (l :: ls)) : ∃ a r, v = a :: r ∧ 0 ≤ a ∧ a < l ∧ Inb r ls := by
  cases v with
  | nil => exact h.elim
  | cons a r => exact ⟨a, r, rfl, h.1, h.2.1, h.2.2⟩
theorem Inb.nil {v : List Int} (h : Inb v []) : v = [] := by
  cases v with
  | nil => rfl
  | cons a r => exact h.elim
theorem draws_gv (cell : Int) (limits : List Int) (hl : ∀ l ∈ limits, 0 < l ∧ l < 18446744073709551616) (hn : limits.length ≤ 1000000) : Gv (F__law_draws cell limits) (fun v => Inb v limits) := by
  unfold F__law_draws
  refine Gv.bnd fun rest _ => Gv.bnd fun state _ => Gv.bnd fun free _ => Gv.bind (Gv.forS (P := fun i s => Inb s.1 (limits.take i)) ?_ fun i x s hx p => ?_) fun s p => .ok ?_
  · rw [List.take_zero]
    trivial
  · have hb0 := hl x (List.mem_of_getElem? hx)
    have hb : 0 < x ∧ x < 2 ^ 128 := ⟨hb0.1, by omega⟩
    have hlen := p.len
    have hi := get_len hx
    rw [List.length_take] at hlen
    have nx : ∀ y : Int, 0 ≤ y → y < x → Inb (s.1 ++ [y]) (limits.take (i + 1)) := fun y h0 h1 => by
      rw [take_succ_get hx]
      exact p.snoc h0 h1
    unfold F__law_draws_b1
    refine Gv.ite (fun _ => Gv.ite (fun _ => Gv.grd hb.1 (Gv.grd (by omega) (Gv.bnd fun y hy => Gv.grd ⟨hb.1, hb.2⟩ (Gv.bnd fun _ _ => .ok ?_)))) fun _ => Gv.bnd fun _ _ => Gv.bnd fun _ _ => Gv.grd hb.1 (Gv.grd (by omega) (Gv.bnd fun y hy => .ok ?_))) fun _ => Gv.bnd fun _ _ => Gv.bnd fun _ _ => Gv.grd hb.1 (Gv.grd (by omega) (Gv.bnd fun y hy => .ok ?_))
    · subst hy
      exact nx _ (Int.emod_nonneg _ (by omega)) (Int.emod_lt_of_pos _ hb.1)
    · subst hy
      exact nx _ (Int.emod_nonneg _ (by omega)) (Int.emod_lt_of_pos _ hb.1)
    · subst hy
      exact nx _ (Int.emod_nonneg _ (by omega)) (Int.emod_lt_of_pos _ hb.1)
  · rw [List.take_length] at p
    exact p
theorem ixg {xs : List Int} {k : Int} {n : Nat} (e : xs.length = n) (h : -(n : Int) ≤ k ∧ k < n) : -(xs.length : Int) ≤ k ∧ k < xs.length := by
  rw [e]
  exact h
theorem itD_lit {xs : List Int} {a k : Int} (n : Nat) (e : k = (n : Int)) (h : xs[n]? = some a) : itD xs k = a := by
  subst e
  have hl := get_len h
  unfold itD atI ixN
  rw [if_pos (by omega), if_pos (by omega)]
  show (xs[n]?).getD default = a
  rw [h]
  rfl
theorem rx_ok {α : Type} [DecidableEq α] {m : Rx α} {a : α} (h : (match m with | .ok b => decide (b = a) | _ => false) = true) : m = .ok a := by
  cases m with
  | ok b => rw [of_decide_eq_true h]
  | er e => cases h
  | bad => cases h
/-! motions as data, grids of them, what is predicted -/
def VOk (v : Int × Int) : Prop := (-1023 ≤ v.1 ∧ v.1 ≤ 1023) ∧ -1023 ≤ v.2 ∧ v.2 ≤ 1023
abbrev vE (v : Int × Int) : PyData := encT2 PyData.int PyData.int v
abbrev vD (d : PyData) : Int × Int := (cT2 cI cI).dec d
theorem vD_E (v : Int × Int) : vD (vE v) = v := (cT2 cI cI).de v
theorem vE_ok (v : Int × Int) : (cT2 cI cI).ok (vE v) = true := (cT2 cI cI).oke v
/-- a vector or none -/
def Vo (d : PyData) : Prop := d = .none ∨ ∃ v, d = vE v ∧ VOk v
abbrev mE (m : Int × Int × PyData × PyData) : PyData := encT4 PyData.int PyData.int encD encD m
def Cel (d : PyData) : Prop := d = .none ∨ ∃ m : Int × Int × PyData × PyData, d = mE m ∧ Vo m.2.2.1 ∧ Vo m.2.2.2
theorem eqv_int (a : Int) : PyData.eqv (.int a) (.int a) = true := by simp [PyData.eqv]
theorem Vo.eqv {d : PyData} (h : Vo d) : PyData.eqv d d = true := by
  rcases h with rfl | ⟨v, rfl, _⟩
  · rfl
  · simp [encT2, PyData.eqv, PyData.eqvAll]
theorem Vo.lay {d : PyData} (h : Vo d) : PyData.canLay0 d = true ∧ PyData.depth d ≤ 1 := by
  rcases h with rfl | ⟨v, rfl, _⟩
  · exact ⟨by simp [PyData.canLay0], by simp [PyData.depth]⟩
  · exact ⟨by simp [encT2, PyData.canLay0, PyData.canLayAll0], by simp [encT2, PyData.depth, PyData.depthAll]⟩
theorem mE_eqv {m : Int × Int × PyData × PyData} (h1 : Vo m.2.2.1) (h2 : Vo m.2.2.2) : PyData.eqv (mE m) (mE m) = true := by
  simp [encT4, encD, PyData.eqv, PyData.eqvAll, h1.eqv, h2.eqv]
theorem mE_shaped {m : Int × Int × PyData × PyData} (h1 : Vo m.2.2.1) (h2 : Vo m.2.2.2) : SeqAt.shaped (mE m) = true := by
  obtain ⟨a, b⟩ := h1.lay
  obtain ⟨c, d⟩ := h2.lay
  have : PyData.depth (mE m) ≤ 2 := by
    simp [encT4, encD, PyData.depth, PyData.depthAll]
    omega
  simp [SeqAt.shaped, encT4, encD, PyData.canLay0, PyData.canLayAll0, a, c]
  simp [encT4, encD] at this
  omega
theorem Cel.eqv {d : PyData} (h : Cel d) : PyData.eqv d d = true := by
  rcases h with rfl | ⟨m, rfl, h1, h2⟩
  · rfl
  · exact mE_eqv h1 h2
theorem Cel.shaped {d : PyData} (h : Cel d) : SeqAt.shaped d = true := by
  rcases h with rfl | ⟨m, rfl, h1, h2⟩
  · rfl
  · exact mE_shaped h1 h2
/-- the vector of a cell at a place of its motion -/
def vc (d : PyData) (p : Nat) : Int × Int := if dNone d = true then (0, 0) else if dNone (dGet d p) = true then (0, 0) else vD (dGet d p)
theorem vok0 : VOk (0, 0) := ⟨⟨by decide, by decide⟩, by decide, by decide⟩
theorem Vo.dec {d : PyData} (h : Vo d) (n : dNone d = false) : (cT2 cI cI).ok d = true ∧ VOk (vD d) ∧ d = vE (vD d) := by
  rcases h with rfl | ⟨v, rfl, hv⟩
  · cases n
  · rw [vD_E]
    exact ⟨vE_ok v, hv, rfl⟩
theorem Cel.at {d : PyData} (h : Cel d) (n : dNone d = false) {p : Nat} (hp : p = 2 ∨ p = 3) : dHasT d p = true ∧ Vo (dGet d p) := by
  rcases h with rfl | ⟨m, rfl, h1, h2⟩
  · cases n
  · rcases hp with rfl | rfl
    · exact ⟨rfl, h1⟩
    · exact ⟨rfl, h2⟩
theorem vc_in {d : PyData} (h : Cel d) {p : Nat} (hp : p = 2 ∨ p = 3) : VOk (vc d p) := by
  unfold vc
  split
  · exact vok0
  · rename_i n
    split
    · exact vok0
    · rename_i n2
      exact ((h.at (by simpa using n) hp).2.dec (by simpa using n2)).2.1
structure GOk (C R : Int) (g : List (List PyData)) : Prop where
  c0 : 0 < C
  r0 : 0 < R
  len : (g.length : Int) = R
  row : ∀ r ∈ g, (r.length : Int) = C ∧ ∀ d ∈ r, Cel d
section
variable {C R : Int} {g : List (List PyData)} {x y : Int}
theorem itD_in {α : Type} [Inhabited α] {xs : List α} {k : Int} (h0 : 0 ≤ k) (h1 : k < xs.length) : itD xs k ∈ xs := by
  obtain ⟨j, rfl⟩ := Int.eq_ofNat_of_zero_le h0
  have hj : j < xs.length := by omega
  unfold itD atI ixN
  rw [if_pos (by omega), if_pos (by omega)]
  show (xs[j]?).getD default ∈ xs
  rw [List.getElem?_eq_getElem hj]
  exact List.getElem_mem hj
theorem GOk.rowAt (h : GOk C R g) (y0 : 0 ≤ y) (y1 : y < R) : itD g y ∈ g ∧ ((itD g y).length : Int) = C := by
  have := itD_in (xs := g) y0 (by rw [h.len]; exact y1)
  exact ⟨this, (h.row _ this).1⟩
theorem GOk.cell (h : GOk C R g) (x0 : 0 ≤ x) (x1 : x < C) (y0 : 0 ≤ y) (y1 : y < R) : Cel (itD (itD g y) x) := by
  obtain ⟨a, b⟩ := h.rowAt y0 y1
  exact (h.row _ a).2 _ (itD_in x0 (by rw [b]; exact x1))
def vat (C R : Int) (g : List (List PyData)) (x y : Int) (p : Nat) : Int × Int := if 0 ≤ x ∧ x < C ∧ 0 ≤ y ∧ y < R then vc (itD (itD g y) x) p else (0, 0)
theorem vat_in (h : GOk C R g) {p : Nat} (hp : p = 2 ∨ p = 3) : VOk (vat C R g x y p) := by
  unfold vat
  split
  · rename_i c
    exact vc_in (h.cell c.1 c.2.1 c.2.2.1 c.2.2.2) hp
  · exact vok0
theorem has_eq : F_MotionGrid__has ⟨C, R, g⟩ x y = .ok (decide (0 ≤ x ∧ x < C ∧ 0 ≤ y ∧ y < R)) := by
  unfold F_MotionGrid__has
  by_cases a : 0 ≤ x
  · by_cases b : x < C
    · by_cases c : 0 ≤ y
      · by_cases d : y < R <;> simp [a, b, c, d]
      · simp [a, b, c]
    · simp [a, b]
  · simp [a]
theorem motion_at_eq (h : GOk C R g) : F_MotionGrid_motion_at ⟨C, R, g⟩ x y = .ok (if 0 ≤ x ∧ x < C ∧ 0 ≤ y ∧ y < R then itD (itD g y) x else .none) := by
  unfold F_MotionGrid_motion_at
  rw [has_eq, bind_ok]
  by_cases c : 0 ≤ x ∧ x < C ∧ 0 ≤ y ∧ y < R
  · obtain ⟨a, b⟩ := h.rowAt c.2.2.1 c.2.2.2
    have hl := h.len
    rw [if_pos (by simpa using c), if_pos c, grd_pos (by show -(g.length : Int) ≤ y ∧ y < (g.length : Int); omega), grd_pos (by show -((itD g y).length : Int) ≤ x ∧ x < ((itD g y).length : Int); omega)]
  · rw [if_neg (by simpa using c), if_neg c]
    rfl
theorem at_cel (h : GOk C R g) : Cel (if 0 ≤ x ∧ x < C ∧ 0 ≤ y ∧ y < R then itD (itD g y) x else .none) := by
  split
  · rename_i c
    exact h.cell c.1 c.2.1 c.2.2.1 c.2.2.2
  · exact .inl rfl
theorem vector_at_eq (h : GOk C R g) {p : Nat} (hp : p = 2 ∨ p = 3) : F_MotionGrid__vector_at ⟨C, R, g⟩ x y (p : Int) = .ok (vat C R g x y p) := by
  unfold F_MotionGrid__vector_at vat
  rw [motion_at_eq h, bind_ok]
  by_cases c : 0 ≤ x ∧ x < C ∧ 0 ≤ y ∧ y < R
  · rw [if_pos c, if_pos c]
    have hc := h.cell c.1 c.2.1 c.2.2.1 c.2.2.2
    generalize itD (itD g y) x = d at hc
    unfold vc
    by_cases n : dNone d = true
    · rw [if_pos n, if_pos n]
    · obtain ⟨a, b⟩ := hc.at (by simpa using n) hp
      rw [if_neg n, if_neg n, Int.toNat_natCast, grd_pos ⟨by omega, a⟩]
      by_cases n2 : dNone (dGet d p) = true
      · rw [if_pos n2, if_pos n2]
      · rw [if_neg n2, if_neg n2, grd_pos ⟨by omega, a⟩, grd_pos (b.dec (by simpa using n2)).1]
  · rw [if_neg c, if_neg c]
    rfl
def md (l : List Int) : Int := itD (sortL l) 1
theorem sortL_len (l : List Int) : (sortL l).length = l.length := (sortL_perm l).length_eq
theorem median_eq {l : List Int} (h : l.length = 3) : F__median l = .ok (md l) := by
  unfold F__median md
  have := sortL_len l
  rw [grd_pos (by omega)]
theorem md_mem {l : List Int} (h : l.length = 3) : md l ∈ l := by
  have := sortL_len l
  exact (sortL_perm l).mem_iff.mp (itD_in (by decide) (by omega))
def mdv (a b c : Int × Int) : Int × Int := (md [a.1, b.1, c.1], md [a.2, b.2, c.2])
theorem mdv_in {a b c : Int × Int} (ha : VOk a) (hb : VOk b) (hc : VOk c) : VOk (mdv a b c) := by
  have h1 := md_mem (l := [a.1, b.1, c.1]) rfl
  have h2 := md_mem (l := [a.2, b.2, c.2]) rfl
  simp only [List.mem_cons, List.not_mem_nil, or_false] at h1 h2
  obtain ⟨⟨a1, a2⟩, a3, a4⟩ := ha
  obtain ⟨⟨b1, b2⟩, b3, b4⟩ := hb
  obtain ⟨⟨c1, c2⟩, c3, c4⟩ := hc
  unfold mdv VOk
  rcases h1 with q | q | q <;> rcases h2 with r | r | r <;> rw [q, r] <;> exact ⟨⟨by assumption, by assumption⟩, by assumption, by assumption⟩
def pr (C R : Int) (g : List (List PyData)) (x y : Int) (p : Nat) : Int × Int := mdv (vat C R g (x - 1) y p) (vat C R g x (y - 1) p) (vat C R g (x - 1) (y - 1) p)
theorem pr_in (h : GOk C R g) {p : Nat} (hp : p = 2 ∨ p = 3) : VOk (pr C R g x y p) := mdv_in (vat_in h hp) (vat_in h hp) (vat_in h hp)
theorem predicted_eq (h : GOk C R g) (b : Bool) : F_MotionGrid_predicted ⟨C, R, g⟩ x y b = .ok (pr C R g x y (if b = true then 3 else 2)) := by
  unfold F_MotionGrid_predicted
  rw [bnd_eq]
  have hp : ((if b = true then 3 else 2 : Nat) = 2 ∨ (if b = true then 3 else 2 : Nat) = 3) := by cases b <;> simp
  have e : (if b = true then (3 : Int) else 2) = ((if b = true then 3 else 2 : Nat) : Int) := by cases b <;> rfl
  rw [e]
  generalize (if b = true then 3 else 2 : Nat) = p at hp
  refine Gv.get (Gv.bind_eq (vector_at_eq h hp) (Gv.bind_eq (vector_at_eq h hp) (Gv.bind_eq (vector_at_eq h hp) ?_)))
  generalize ea : vat C R g (x - 1) y p = a
  generalize eb : vat C R g x (y - 1) p = b
  generalize ec : vat C R g (x - 1) (y - 1) p = c
  refine Gv.bind_eq (a := [a.1, b.1, c.1]) rfl (Gv.bind_eq (median_eq rfl) (Gv.bind_eq (a := [a.2, b.2, c.2]) rfl (Gv.bind_eq (median_eq rfl) (.ok ?_))))
  unfold pr mdv
  rw [ea, eb, ec]
theorem setL_nat {α : Type} {xs : List α} {k : Int} {v : α} (h0 : 0 ≤ k) (h1 : k < xs.length) : setL xs k v = xs.set k.toNat v := by
  obtain ⟨j, rfl⟩ := Int.eq_ofNat_of_zero_le h0
  unfold setL ixN
  rw [if_pos (by omega), if_pos (by omega)]
  rfl
def kept (g : List (List PyData)) (x y : Int) (d : PyData) : List (List PyData) := setL g y (setL (itD g y) x d)
theorem kept_ok (h : GOk C R g) (x0 : 0 ≤ x) (x1 : x < C) (y0 : 0 ≤ y) (y1 : y < R) {d : PyData} (hd : Cel d) : GOk C R (kept g x y d) := by
  obtain ⟨a, b⟩ := h.rowAt y0 y1
  have hl := h.len
  unfold kept
  rw [setL_nat y0 (by omega), setL_nat x0 (by omega)]
  refine ⟨h.c0, h.r0, by rw [List.length_set]; exact hl, fun r hr => ?_⟩
  rcases List.mem_or_eq_of_mem_set hr with hr | rfl
  · exact h.row r hr
  · refine ⟨by rw [List.length_set]; exact b, fun e he => ?_⟩
    rcases List.mem_or_eq_of_mem_set he with he | rfl
    · exact (h.row _ a).2 e he
    · exact hd
theorem keep_eq (h : GOk C R g) (x0 : 0 ≤ x) (x1 : x < C) (y0 : 0 ≤ y) (y1 : y < R) (d : PyData) : F_MotionGrid_keep_quarter ⟨C, R, g⟩ x y d = .ok ⟨C, R, kept g x y d⟩ := by
  obtain ⟨a, b⟩ := h.rowAt y0 y1
  have hl := h.len
  unfold F_MotionGrid_keep_quarter
  rw [has_eq, bind_ok, if_pos (by simpa using (⟨x0, x1, y0, y1⟩ : 0 ≤ x ∧ x < C ∧ 0 ≤ y ∧ y < R)), grd_pos (by show -(g.length : Int) ≤ y ∧ y < (g.length : Int); omega), grd_pos (by show -((itD g y).length : Int) ≤ x ∧ x < ((itD g y).length : Int); omega), bnd_eq]
  rfl
end
def blank (C R : Int) : List (List PyData) := (rng 0 R.toNat).map fun _ => repL [PyData.none] C
theorem repL_one {α : Type} (a : α) (k : Int) : repL [a] k = List.replicate k.toNat a := by
  unfold repL
  induction k.toNat with
  | zero => rfl
  | succ n ih => rw [List.replicate_succ, List.flatten_cons, ih]; rfl
theorem blank_ok {C R : Int} (hc : 0 < C) (hr : 0 < R) : GOk C R (blank C R) := by
  refine ⟨hc, hr, by unfold blank; rw [List.length_map, rng_len]; omega, fun r hr => ?_⟩
  unfold blank at hr
  obtain ⟨_, _, rfl⟩ := List.mem_map.mp hr
  rw [repL_one, List.length_replicate]
  refine ⟨by omega, fun d hd => ?_⟩
  rw [(List.mem_replicate.mp hd).2]
  exact .inl rfl
theorem grid_init {c r : Int} (hc : 0 < c ∧ c ≤ 1000) (hr : 0 < r ∧ r ≤ 1000) : F_MotionGrid___init__ c r = .ok ⟨2 * c, 2 * r, blank (2 * c) (2 * r)⟩ := by
  unfold F_MotionGrid___init__
  rw [bnd_eq, bnd_eq, grd_pos (by omega)]
  refine Gv.get (Gv.bind_eq (mapA_pure0 (g := fun _ => repL [PyData.none] (2 * c)) (fun x _ => ?_) (by rw [rng_len]; omega)) (.ok rfl))
  unfold F_MotionGrid___init___c1
  rw [grd_pos (by show _ ∧ _ ∧ 1 * Int.toNat (2 * c) ≤ 1000000; omega)]
  rfl
/-! the law's own grid, read -/
def isV (d : PyData) : Prop := ∃ v, d = vE v ∧ VOk v
theorem inb_at : ∀ {vs ls : List Int} (k : Nat) {l : Int}, Inb vs ls → ls[k]? = some l → 0 ≤ itD vs (k : Int) ∧ itD vs (k : Int) < l
  | [], [], _, _, _, h => by simp at h
  | v :: vs, l :: ls, 0, _, h, e => by
    simp at e
    subst e
    have : itD (v :: vs) ((0 : Nat) : Int) = v := itD_lit 0 rfl rfl
    rw [this]
    exact ⟨h.1, h.2.1⟩
  | v :: vs, l :: ls, k + 1, q, h, e => by
    have ih := inb_at k h.2.2 (show ls[k]? = some q by simpa using e)
    have hk := get_len (show ls[k]? = some q by simpa using e)
    have hk2 : k < vs.length := by rw [h.2.2.len]; exact hk
    have e2 : itD vs (k : Int) = vs[k] := itD_lit k rfl (List.getElem?_eq_getElem hk2)
    have : itD (v :: vs) ((k + 1 : Nat) : Int) = itD vs (k : Int) := by
      rw [e2]
      exact itD_lit (k + 1) rfl (by rw [List.getElem?_cons_succ]; exact List.getElem?_eq_getElem hk2)
    rw [this]
    exact ih
  | [], _ :: _, _, _, h, _ => h.elim
  | _ :: _, [], _, _, h, _ => h.elim
section
variable {C R : Int} {g : List (List PyData)} {x y : Int}
theorem law_vector_eq (h : GOk C R g) {s : Int} (hs : s = 0 ∨ s = 1) : F__law_vector g x y s = .ok (vat C R g x y (2 + s).toNat) := by
  have hp : (2 + s).toNat = 2 ∨ (2 + s).toNat = 3 := by omega
  have hl := h.len
  have hr := h.r0
  unfold F__law_vector vat
  by_cases c : 0 ≤ x ∧ x < C ∧ 0 ≤ y ∧ y < R
  · have hc := h.cell c.1 c.2.1 c.2.2.1 c.2.2.2
    obtain ⟨a, b⟩ := h.rowAt c.2.2.1 c.2.2.2
    obtain ⟨a0, b0⟩ := h.rowAt (y := 0) (by decide) hr
    have gy : -(g.length : Int) ≤ y ∧ y < (g.length : Int) := by omega
    have gx : -((itD g y).length : Int) ≤ x ∧ x < ((itD g y).length : Int) := by omega
    rw [if_pos c, if_neg (by omega), if_neg (by omega), if_neg (by omega), grd_pos (by omega), if_neg (by rw [b0]; omega), grd_pos gy, grd_pos gx]
    generalize itD (itD g y) x = d at hc
    unfold vc
    by_cases n : dNone d = true
    · rw [if_pos n, if_pos n]
    · obtain ⟨a, b⟩ := hc.at (by simpa using n) hp
      rw [if_neg n, if_neg n, grd_pos gy, grd_pos gx, grd_pos ⟨by omega, a⟩]
      by_cases n2 : dNone (dGet d (2 + s).toNat) = true
      · rw [if_pos n2, if_pos n2]
      · rw [if_neg n2, if_neg n2, grd_pos (b.dec (by simpa using n2)).1]
  · rw [if_neg c]
    by_cases c1 : x < 0
    · rw [if_pos c1]
    rw [if_neg c1]
    by_cases c2 : y < 0
    · rw [if_pos c2]
    rw [if_neg c2]
    by_cases c3 : (g.length : Int) ≤ y
    · rw [if_pos c3]
    rw [if_neg c3, grd_pos (by omega)]
    obtain ⟨a0, b0⟩ := h.rowAt (y := 0) (by decide) hr
    rw [if_pos (by rw [b0]; omega)]
theorem law_median_eq {l : List Int} (h : l.length = 3) : F__law_median l = .ok (md l) := by
  unfold F__law_median md
  have := sortL_len l
  rw [grd_pos (by omega)]
theorem law_predicted_eq (h : GOk C R g) {s : Int} (hs : s = 0 ∨ s = 1) : F__law_predicted g x y s = .ok (pr C R g x y (2 + s).toNat) := by
  unfold F__law_predicted
  refine Gv.get (Gv.bind_eq (law_vector_eq h hs) (Gv.bind_eq (law_vector_eq h hs) (Gv.bind_eq (law_vector_eq h hs) ?_)))
  generalize (2 + s).toNat = p
  generalize ea : vat C R g (x - 1) y p = a
  generalize eb : vat C R g x (y - 1) p = b
  generalize ec : vat C R g (x - 1) (y - 1) p = c
  refine Gv.bind_eq (a := [a.1, b.1, c.1]) rfl (Gv.bind_eq (law_median_eq rfl) (Gv.bind_eq (a := [a.2, b.2, c.2]) rfl (Gv.bind_eq (law_median_eq rfl) (.ok ?_))))
  unfold pr mdv
  rw [ea, eb, ec]
end
/-! the law's own motions -/
theorem comp_gv {a b : Int} (h0 : 0 ≤ a) (h1 : a < 7) : Gv (F__law_component a b) (fun v => -1023 ≤ v ∧ v ≤ 1023) := by
  unfold F__law_component
  refine Gv.grd ⟨by show -(7 : Int) ≤ a; omega, by show a < (7 : Int); omega⟩ (.ok ?_)
  obtain ⟨L, hL⟩ : ∃ L : List Int, L = [0, 1023, (-1023), 4, b % 9 - 4, b % 65 - 32, b % 2047 - 1023] := ⟨_, rfl⟩
  rw [← hL]
  have : a = 0 ∨ a = 1 ∨ a = 2 ∨ a = 3 ∨ a = 4 ∨ a = 5 ∨ a = 6 := by omega
  rcases this with rfl | rfl | rfl | rfl | rfl | rfl | rfl
  · rw [show itD L 0 = 0 from itD_lit 0 rfl (by rw [hL]; rfl)]; decide
  · rw [show itD L 1 = 1023 from itD_lit 1 rfl (by rw [hL]; rfl)]; decide
  · rw [show itD L 2 = -1023 from itD_lit 2 rfl (by rw [hL]; rfl)]; decide
  · rw [show itD L 3 = 4 from itD_lit 3 rfl (by rw [hL]; rfl)]; decide
  · rw [show itD L 4 = b % 9 - 4 from itD_lit 4 rfl (by rw [hL]; rfl)]; omega
  · rw [show itD L 5 = b % 65 - 32 from itD_lit 5 rfl (by rw [hL]; rfl)]; omega
  · rw [show itD L 6 = b % 2047 - 1023 from itD_lit 6 rfl (by rw [hL]; rfl)]; omega
/-! four at once -/
theorem len10i {vs ls : List Int} {n : Nat} (h : Inb vs ls) (hl : ls.length = n) : vs.length = n := h.len.trans hl
theorem vcel {a b : Int} {f s : PyData} (h1 : Vo f) (h2 : Vo s) : Cel (mE (a, b, f, s)) := .inr ⟨_, rfl, h1, h2⟩
theorem motion_gv (cell : Int) {kind refs : Int} (hr : 1 ≤ refs) : Gv (F__law_motion cell kind refs) Cel := by
  unfold F__law_motion
  refine Gv.bind (draws_gv cell _ (by decide) (by decide)) fun D hD => ?_
  have hl : D.length = 10 := hD.len
  have d2 := inb_at 2 hD rfl
  have d4 := inb_at 4 hD rfl
  have d6 := inb_at 6 hD rfl
  have d8 := inb_at 8 hD rfl
  refine Gv.grd (by omega) (Gv.grd (by omega) (Gv.bind (comp_gv d2.1 d2.2) fun a ha => Gv.grd (by omega) (Gv.grd (by omega) (Gv.bind (comp_gv d4.1 d4.2) fun b hb => Gv.grd (by omega) (Gv.grd (by omega) (Gv.bind (comp_gv d6.1 d6.2) fun c hc => Gv.grd (by omega) (Gv.grd (by omega) (Gv.bind (comp_gv d8.1 d8.2) fun e he => ?_))))))))
  have v1 : Vo (vE (a, b)) := .inr ⟨_, rfl, ha, hb⟩
  have v2 : Vo (vE (c, e)) := .inr ⟨_, rfl, hc, he⟩
  have n0 : Vo .none := .inl rfl
  exact Gv.ite (fun k1 => Gv.grd (by omega) (Gv.grd (by omega) (.ok (vcel v1 n0)))) fun k1 => Gv.grd (by omega) (Gv.ite (fun k0 => .ok (vcel v1 n0)) fun k0 => Gv.grd (by omega) (Gv.ite (fun k2 => .ok (vcel n0 v2)) fun k2 => .ok (vcel v1 v2)))
def K4 (g : List (List PyData)) (c r : Int) (a b d e : PyData) : List (List PyData) := kept (kept (kept (kept g (2 * c) (2 * r) a) (2 * c + 1) (2 * r) b) (2 * c) (2 * r + 1) d) (2 * c + 1) (2 * r + 1) e
section
variable {cs rs c r : Int} {g : List (List PyData)}
structure In (cs rs c r : Int) : Prop where
  c0 : 0 ≤ c
  c1 : c < cs
  r0 : 0 ≤ r
  r1 : r < rs
theorem K4_ok (G : GOk (2 * cs) (2 * rs) g) (h : In cs rs c r) {a b d e : PyData} (ha : Cel a) (hb : Cel b) (hd : Cel d) (he : Cel e) : GOk (2 * cs) (2 * rs) (K4 g c r a b d e) := by
  obtain ⟨c0, c1, r0, r1⟩ := h
  exact kept_ok (kept_ok (kept_ok (kept_ok G (by omega) (by omega) (by omega) (by omega) ha) (by omega) (by omega) (by omega) (by omega) hb) (by omega) (by omega) (by omega) (by omega) hd) (by omega) (by omega) (by omega) (by omega) he
abbrev St := St_MotionGrid
def kb (c r : Int) (s : St) (x : Int × PyData) : Rx St := Rx.bind (noEr (F_MotionGrid_keep_quarter s ((2 * c) + (x.1 % 2)) ((2 * r) + (x.1 / 2)) x.2)) fun v => .ok v
theorem kb_eq {C R : Int} (G : GOk C R g) {x y k : Int} (hx : 2 * c + k % 2 = x) (hy : 2 * r + k / 2 = y) (x0 : 0 ≤ x) (x1 : x < C) (y0 : 0 ≤ y) (y1 : y < R) (d : PyData) : kb c r ⟨C, R, g⟩ (k, d) = .ok ⟨C, R, kept g x y d⟩ := by
  unfold kb
  show Rx.bind (noEr (F_MotionGrid_keep_quarter ⟨C, R, g⟩ (2 * c + k % 2) (2 * r + k / 2) d)) _ = _
  rw [hx, hy, keep_eq G x0 x1 y0 y1]
  rfl
theorem loop4 (G : GOk (2 * cs) (2 * rs) g) (h : In cs rs c r) {a b d e : PyData} (ha : Cel a) (hb : Cel b) (hd : Cel d) (_he : Cel e) {f : St → Int × PyData → Rx St} (hf : ∀ s x, f s x = kb c r s x) :
    forS (enumL [a, b, d, e]) ⟨2 * cs, 2 * rs, g⟩ f = .ok ⟨2 * cs, 2 * rs, K4 g c r a b d e⟩ := by
  obtain ⟨c0, c1, r0, r1⟩ := h
  have G1 := kept_ok G (x := 2 * c) (y := 2 * r) (by omega) (by omega) (by omega) (by omega) ha
  have G2 := kept_ok G1 (x := 2 * c + 1) (y := 2 * r) (by omega) (by omega) (by omega) (by omega) hb
  have G3 := kept_ok G2 (x := 2 * c) (y := 2 * r + 1) (by omega) (by omega) (by omega) (by omega) hd
  show (f _ (0, a)).bind (fun s => (f s (1, b)).bind fun s => (f s (2, d)).bind fun s => (f s (3, e)).bind fun s => .ok s) = _
  rw [hf, kb_eq G (k := 0) (x := 2 * c) (y := 2 * r) (by omega) (by omega) (by omega) (by omega) (by omega) (by omega), bind_ok, hf, kb_eq G1 (k := 1) (x := 2 * c + 1) (y := 2 * r) (by omega) (by omega) (by omega) (by omega) (by omega) (by omega), bind_ok,
    hf, kb_eq G2 (k := 2) (x := 2 * c) (y := 2 * r + 1) (by omega) (by omega) (by omega) (by omega) (by omega) (by omega), bind_ok, hf, kb_eq G3 (k := 3) (x := 2 * c + 1) (y := 2 * r + 1) (by omega) (by omega) (by omega) (by omega) (by omega) (by omega), bind_ok]
  rfl
theorem nocel : Cel .none := .inl rfl
theorem keep_none (G : GOk (2 * cs) (2 * rs) g) (h : In cs rs c r) : F_MotionGrid_keep ⟨2 * cs, 2 * rs, g⟩ c r none = .ok ⟨2 * cs, 2 * rs, K4 g c r .none .none .none .none⟩ := by
  unfold F_MotionGrid_keep
  dsimp only [optE]
  rw [if_pos (show ((([encN ()] : List PyData).length : Nat) : Int) = 1 from rfl), grd_pos (by show _ ∧ _ ∧ 1 * Int.toNat 4 ≤ 1000000; decide)]
  show Rx.bind (forS (enumL [PyData.none, .none, .none, .none]) _ _) _ = _
  rw [loop4 G h nocel nocel nocel nocel (f := fun s x => F_MotionGrid_keep_b1 c r s x) (fun _ _ => rfl)]
  rfl
theorem keep_one (G : GOk (2 * cs) (2 * rs) g) (h : In cs rs c r) {a : PyData} (ha : Cel a) : F_MotionGrid_keep ⟨2 * cs, 2 * rs, g⟩ c r (some [a]) = .ok ⟨2 * cs, 2 * rs, K4 g c r a a a a⟩ := by
  unfold F_MotionGrid_keep
  dsimp only [optE]
  rw [if_pos (show ((([a] : List PyData).length : Nat) : Int) = 1 from rfl), grd_pos (by show _ ∧ _ ∧ 1 * Int.toNat 4 ≤ 1000000; decide)]
  show Rx.bind (forS (enumL [a, a, a, a]) _ _) _ = _
  rw [loop4 G h ha ha ha ha (f := fun s x => F_MotionGrid_keep_b3 c r s x) (fun _ _ => rfl)]
  rfl
theorem keep_four (G : GOk (2 * cs) (2 * rs) g) (h : In cs rs c r) {a b d e : PyData} (ha : Cel a) (hb : Cel b) (hd : Cel d) (he : Cel e) : F_MotionGrid_keep ⟨2 * cs, 2 * rs, g⟩ c r (some [a, b, d, e]) = .ok ⟨2 * cs, 2 * rs, K4 g c r a b d e⟩ := by
  unfold F_MotionGrid_keep
  dsimp only [optE]
  rw [if_neg (by show ¬ (4 : Int) = 1; decide)]
  rw [loop4 G h ha hb hd he (f := fun s x => F_MotionGrid_keep_b4 c r s x) (fun _ _ => rfl)]
  rfl
/-- the law's own loop -/
def lb (D : List Int) (c r : Int) (ms : List PyData) (s : List (List PyData)) (x : Int) : Rx (List (List PyData)) :=
  grd (-((ms : List PyData).length : Int) ≤ 0 ∧ 0 < ((ms : List PyData).length : Int)) <| grd (-((ms : List PyData).length : Int) ≤ x ∧ x < ((ms : List PyData).length : Int)) <| grd (-((D : List Int).length : Int) ≤ 0 ∧ 0 < ((D : List Int).length : Int)) <|
    grd (-(([encN (), itD ms 0, itD ms x] : List PyData).length : Int) ≤ itD D 0 ∧ itD D 0 < (([encN (), itD ms 0, itD ms x] : List PyData).length : Int)) <| grd (-((s : List (List PyData)).length : Int) ≤ 2 * r + x / 2 ∧ 2 * r + x / 2 < ((s : List (List PyData)).length : Int)) <|
    grd (-((itD s (2 * r + x / 2)).length : Int) ≤ 2 * c + x % 2 ∧ 2 * c + x % 2 < ((itD s (2 * r + x / 2)).length : Int)) <| bnd (setL s (2 * r + x / 2) (setL (itD s (2 * r + x / 2)) (2 * c + x % 2) (itD [encN (), itD ms 0, itD ms x] (itD D 0)))) fun y => .ok y
theorem lb_eq {C R : Int} {D : List Int} {ms : List PyData} (G : GOk C R g) (hD : D.length = 10) (hd : 0 ≤ itD D 0 ∧ itD D 0 < 3) (hm : ms.length = 4) {x y k : Int} (hk : 0 ≤ k ∧ k < 4) (hx : 2 * c + k % 2 = x) (hy : 2 * r + k / 2 = y) (x0 : 0 ≤ x) (x1 : x < C) (y0 : 0 ≤ y) (y1 : y < R) :
    lb D c r ms g k = .ok (kept g x y (itD [encN (), itD ms 0, itD ms k] (itD D 0))) := by
  obtain ⟨a, b⟩ := G.rowAt y0 y1
  have gl := G.len
  unfold lb
  rw [grd_pos (by omega), grd_pos (by omega), grd_pos (by omega), grd_pos (by show -(3 : Int) ≤ itD D 0 ∧ itD D 0 < 3; omega), hy, hx, grd_pos (by omega), grd_pos (by omega), bnd_eq]
  rfl
theorem lloop {D : List Int} {a b d e : PyData} (G : GOk (2 * cs) (2 * rs) g) (h : In cs rs c r) (hD : D.length = 10) (hd0 : 0 ≤ itD D 0 ∧ itD D 0 < 3) (ha : Cel a) (hb : Cel b) (hd : Cel d) {f : List (List PyData) → Int → Rx (List (List PyData))} (hf : ∀ s x, f s x = lb D c r [a, b, d, e] s x) :
    forS (rng 0 (Int.toNat 4)) g f = .ok (K4 g c r (itD [encN (), a, a] (itD D 0)) (itD [encN (), a, b] (itD D 0)) (itD [encN (), a, d] (itD D 0)) (itD [encN (), a, e] (itD D 0))) := by
  obtain ⟨c0, c1, r0, r1⟩ := h
  have pk : ∀ {z : PyData}, Cel z → Cel (itD [encN (), a, z] (itD D 0)) := fun {z} hz => by
    have : itD D 0 = 0 ∨ itD D 0 = 1 ∨ itD D 0 = 2 := by omega
    rcases this with q | q | q <;> rw [q]
    · exact nocel
    · exact ha
    · exact hz
  have G1 := kept_ok G (x := 2 * c) (y := 2 * r) (by omega) (by omega) (by omega) (by omega) (pk ha)
  have G2 := kept_ok G1 (x := 2 * c + 1) (y := 2 * r) (by omega) (by omega) (by omega) (by omega) (pk hb)
  have G3 := kept_ok G2 (x := 2 * c) (y := 2 * r + 1) (by omega) (by omega) (by omega) (by omega) (pk hd)
  have e0 := lb_eq (c := c) (r := r) (ms := [a, b, d, e]) (k := 0) (x := 2 * c) (y := 2 * r) G hD hd0 rfl (by decide) (by omega) (by omega) (by omega) (by omega) (by omega) (by omega)
  have e1 := lb_eq (c := c) (r := r) (ms := [a, b, d, e]) (k := 1) (x := 2 * c + 1) (y := 2 * r) G1 hD hd0 rfl (by decide) (by omega) (by omega) (by omega) (by omega) (by omega) (by omega)
  have e2 := lb_eq (c := c) (r := r) (ms := [a, b, d, e]) (k := 2) (x := 2 * c) (y := 2 * r + 1) G2 hD hd0 rfl (by decide) (by omega) (by omega) (by omega) (by omega) (by omega) (by omega)
  have e3 := lb_eq (c := c) (r := r) (ms := [a, b, d, e]) (k := 3) (x := 2 * c + 1) (y := 2 * r + 1) G3 hD hd0 rfl (by decide) (by omega) (by omega) (by omega) (by omega) (by omega) (by omega)
  rw [show rng 0 (Int.toNat 4) = [0, 1, 2, 3] from by decide]
  show (f g 0).bind (fun s => (f s 1).bind fun s => (f s 2).bind fun s => (f s 3).bind fun s => .ok s) = _
  rw [hf, e0, bind_ok, hf]
  show (lb D c r [a, b, d, e] (kept g (2 * c) (2 * r) (itD [encN (), a, a] (itD D 0))) 1).bind _ = _
  rw [e1, bind_ok, hf]
  show (lb D c r [a, b, d, e] (kept (kept g (2 * c) (2 * r) (itD [encN (), a, a] (itD D 0))) (2 * c + 1) (2 * r) (itD [encN (), a, b] (itD D 0))) 2).bind _ = _
  rw [e2, bind_ok, hf]
  show (lb D c r [a, b, d, e] (kept (kept (kept g (2 * c) (2 * r) (itD [encN (), a, a] (itD D 0))) (2 * c + 1) (2 * r) (itD [encN (), a, b] (itD D 0))) (2 * c) (2 * r + 1) (itD [encN (), a, d] (itD D 0))) 3).bind _ = _
  rw [e3, bind_ok]
  rfl
theorem keep_gv (G : GOk (2 * cs) (2 * rs) g) (cell : Int) : Gv (F__law_keep ⟨2 * cs, 2 * rs, g⟩ g cell cs rs) (fun v => ∃ g', v = (true, ⟨2 * cs, 2 * rs, g'⟩, g') ∧ GOk (2 * cs) (2 * rs) g') := by
  have C0 := G.c0
  have R0 := G.r0
  unfold F__law_keep
  refine Gv.bind (draws_gv cell _ (by decide) (by decide)) fun D hD => ?_
  have hl : D.length = 10 := hD.len
  have d0 : 0 ≤ itD D 0 ∧ itD D 0 < 4 := inb_at 0 hD rfl
  have d4 : 0 ≤ itD D 4 ∧ itD D 4 < 2 := inb_at 4 hD rfl
  have d5 : 0 ≤ itD D 5 ∧ itD D 5 < 2 := inb_at 5 hD rfl
  refine Gv.grd (by omega) (Gv.grd (by omega) (Gv.bnd fun c hc => Gv.grd (by omega) (Gv.grd (by omega) (Gv.bnd fun r hr => Gv.grd (by omega) (Gv.bnd fun kind _ => ?_)))))
  have h : In cs rs c r := ⟨by rw [hc]; exact Int.emod_nonneg _ (by omega), by rw [hc]; exact Int.emod_lt_of_pos _ (by omega), by rw [hr]; exact Int.emod_nonneg _ (by omega), by rw [hr]; exact Int.emod_lt_of_pos _ (by omega)⟩
  obtain ⟨c0, c1, r0, r1⟩ := id h
  refine Gv.bind (P := fun ms => ∃ a b d e, ms = [a, b, d, e] ∧ Cel a ∧ Cel b ∧ Cel d ∧ Cel e) ?_ ?_
  · rw [show rng 0 (Int.toNat 4) = [0, 1, 2, 3] from by decide]
    have one : ∀ k : Int, 0 ≤ k → k < 4 → Gv (noEr (F__law_keep_c1 D kind k)) Cel := fun k k0 k1 => Gv.noEr (by
      unfold F__law_keep_c1
      exact Gv.grd (by omega) (Gv.bind (motion_gv _ (by decide)) fun v hv => .ok hv))
    obtain ⟨a, ea, ha⟩ := one 0 (by decide) (by decide)
    obtain ⟨b, eb, hb⟩ := one 1 (by decide) (by decide)
    obtain ⟨d, ed, hd⟩ := one 2 (by decide) (by decide)
    obtain ⟨e, ee, he⟩ := one 3 (by decide) (by decide)
    have gg : ∀ {n : Nat}, n ≤ 4 → n < 1000000 := fun h => by omega
    refine .of_eq (a := [a, b, d, e]) ?_ ⟨a, b, d, e, rfl, ha, hb, hd, he⟩
    simp [mapA, ea, eb, ed, ee, bind_ok, grd]
  · rintro _ ⟨a, b, d, e, rfl, ha, hb, hd, he⟩
    refine Gv.grd (by omega) (Gv.ite (fun k3 => ?_) fun k3 => ?_)
    · have x0 : 0 ≤ 2 * c + itD D 4 ∧ 2 * c + itD D 4 < 2 * cs := by omega
      have y0 : 0 ≤ 2 * r + itD D 5 ∧ 2 * r + itD D 5 < 2 * rs := by omega
      obtain ⟨ra, rb⟩ := G.rowAt y0.1 y0.2
      have gl := G.len
      have m0 : -((([a, b, d, e] : List PyData).length : Nat) : Int) ≤ 0 ∧ 0 < ((([a, b, d, e] : List PyData).length : Nat) : Int) := by show -(4 : Int) ≤ 0 ∧ (0 : Int) < 4; decide
      refine Gv.grd (by omega) (Gv.grd (by omega) (Gv.grd m0 (Gv.bind_eq (keep_eq G x0.1 x0.2 y0.1 y0.2 _) (Gv.grd m0 (Gv.grd (by omega) (Gv.grd (by omega) (Gv.grd (by omega) (Gv.grd (by omega) (Gv.bnd fun z hz => .ok ⟨_, ?_, kept_ok G x0.1 x0.2 y0.1 y0.2 (d := itD [a, b, d, e] 0) ha⟩)))))))))
      rw [hz]
      rfl
    · refine Gv.grd (by omega) (Gv.grd (by omega) (Gv.ite (fun q => ?_) fun q => Gv.ite (fun q1 => ?_) fun q1 => ?_))
      · refine Gv.bind_eq (lloop G h hl (by omega) ha hb hd (fun _ _ => rfl)) ?_
        rw [q]
        show Gv (F__law_keep_r2 _ c r (K4 g c r .none .none .none .none)) _
        unfold F__law_keep_r2
        refine Gv.bind_eq (a := ⟨2 * cs, 2 * rs, K4 g c r .none .none .none .none⟩) (by rw [keep_none G h]; rfl) (Gv.bind_eq (a := ()) rfl (.ok ⟨_, rfl, K4_ok G h nocel nocel nocel nocel⟩))
      · refine Gv.bind_eq (lloop G h hl (by omega) ha hb hd (fun _ _ => rfl)) ?_
        rw [q1]
        show Gv (F__law_keep_r4 _ c r [a] (K4 g c r a a a a)) _
        unfold F__law_keep_r4
        refine Gv.bind_eq (a := ⟨2 * cs, 2 * rs, K4 g c r a a a a⟩) (by rw [keep_one G h ha]; rfl) (Gv.bind_eq (a := ()) ?_ (.ok ⟨_, rfl, K4_ok G h ha ha ha ha⟩))
        rw [grd_pos (by show 1 ≤ 1000000; decide), bnd_eq, grd_pos (by show -(2 : Int) ≤ 0 ∧ (0 : Int) < 2; decide)]
        rfl
      · have q2 : itD D 0 = 2 := by omega
        refine Gv.bind_eq (lloop G h hl (by omega) ha hb hd (fun _ _ => rfl)) ?_
        rw [q2]
        show Gv (F__law_keep_r6 _ c r [a, b, d, e] (K4 g c r a b d e)) _
        unfold F__law_keep_r6
        refine Gv.bind_eq (a := ⟨2 * cs, 2 * rs, K4 g c r a b d e⟩) (by rw [keep_four G h ha hb hd he]; rfl) (Gv.bind_eq (a := ()) ?_ (.ok ⟨_, rfl, K4_ok G h ha hb hd he⟩))
        rw [grd_pos (by show 4 ≤ 1000000; decide), bnd_eq, grd_pos (by show -(5 : Int) ≤ 0 ∧ (0 : Int) < 5; decide)]
        rfl
end
/-! the law -/
theorem law_true (xs : List Int) (h : xs.length ≤ 63) : F_law xs = .ok true := by
  refine Gv.get ?_
  unfold F_law
  refine Gv.bind (cell_gv xs 0 (by decide)) fun cell _ => Gv.bind (draws_gv cell _ (by decide) (by decide)) fun D hD => ?_
  have hl : D.length = 2 := hD.len
  have d0 : 0 ≤ itD D 0 ∧ itD D 0 < 4 := inb_at 0 hD rfl
  have d1 : 0 ≤ itD D 1 ∧ itD D 1 < 4 := inb_at 1 hD rfl
  refine Gv.grd (by omega) (Gv.bnd fun cs hcs => Gv.grd (by omega) (Gv.bnd fun rs hrs => ?_))
  have hcs : 1 ≤ cs ∧ cs ≤ 4 := by omega
  have hrs : 1 ≤ rs ∧ rs ≤ 4 := by omega
  have b0 := blank_ok (C := 2 * cs) (R := 2 * rs) (by omega) (by omega)
  have hx : (cutL xs (some 1) none).length ≤ 63 := by
    unfold cutL
    rw [List.length_take, List.length_drop]
    omega
  refine Gv.bind_eq (grid_init (by omega) (by omega)) (Gv.grd (by omega) (Gv.bind_eq (a := blank (2 * cs) (2 * rs)) (mapA_pure0 (g := fun _ => repL [PyData.none] (2 * cs)) (fun x _ => ?_) (by rw [rng_len]; omega)) (Gv.grd (by show 1 + _ ≤ 1000000; omega) ?_)))
  · unfold F_law_c1
    rw [grd_pos (by show _ ∧ _ ∧ 1 * Int.toNat (2 * cs) ≤ 1000000; omega)]
    rfl
  refine Gv.bind (Gv.forR (P := fun _ (s : St_MotionGrid × List (List PyData)) => ∃ g, GOk (2 * cs) (2 * rs) g ∧ s = (⟨2 * cs, 2 * rs, g⟩, g)) ⟨_, b0, rfl⟩ fun i cell s hi p => ?_) ?_
  · obtain ⟨g, G, rfl⟩ := p
    show Gv (F_law_b2 cs rs ⟨2 * cs, 2 * rs, g⟩ g cell) _
    unfold F_law_b2
    refine Gv.bind (draws_gv (cell / 3) _ (by decide) (by decide)) fun P hP => ?_
    have hl : P.length = 3 := hP.len
    have p2 : 0 ≤ itD P 2 ∧ itD P 2 < 4 := inb_at 2 hP rfl
    refine Gv.grd (by omega) (Gv.grd (by omega) (Gv.bnd fun x hx => Gv.grd (by omega) (Gv.grd (by omega) (Gv.bnd fun y hy => Gv.bind_eq (a := .go ()) (forR_unit fun s hs => ?_) ?_))))
    · have hs2 : s = 0 ∨ s = 1 := by
        have := rng_mem hs
        omega
      unfold F_law_b3
      rw [predicted_eq G, bind_ok, law_predicted_eq G hs2, bind_ok]
      rcases hs2 with rfl | rfl
      · exact if_pos rfl
      · exact if_pos rfl
    rw [aft_go]
    have hx : 0 ≤ x ∧ x < 2 * cs := by rw [hx]; exact ⟨Int.emod_nonneg _ (by omega), Int.emod_lt_of_pos _ (by omega)⟩
    have hy : 0 ≤ y ∧ y < 2 * rs := by rw [hy]; exact ⟨Int.emod_nonneg _ (by omega), Int.emod_lt_of_pos _ (by omega)⟩
    unfold F_law_r3
    generalize ha : 2 * (x / 2) = a
    generalize hb : 2 * (y / 2) = b
    have q2 := pr_in G (x := a) (y := b) (.inl rfl)
    have q3 := pr_in G (x := a) (y := b) (.inr rfl)
    have sP : F_MotionGrid_skipped ⟨2 * cs, 2 * rs, g⟩ (x / 2) (y / 2) ("P" : Str) = .ok (0, 0, pr (2 * cs) (2 * rs) g a b 2, .none) := by
      unfold F_MotionGrid_skipped
      rw [ha, hb, predicted_eq G, bind_ok, if_pos rfl]
      rfl
    have sB : F_MotionGrid_skipped ⟨2 * cs, 2 * rs, g⟩ (x / 2) (y / 2) ("B" : Str) = .ok (2, 0, pr (2 * cs) (2 * rs) g a b 2, vE (pr (2 * cs) (2 * rs) g a b 3)) := by
      unfold F_MotionGrid_skipped
      rw [ha, hb, predicted_eq G, bind_ok, if_neg (by decide), predicted_eq G, bind_ok]
      rfl
    have cP : Cel (mE (0, 0, vE (pr (2 * cs) (2 * rs) g a b 2), .none)) := vcel (.inr ⟨_, rfl, q2⟩) (.inl rfl)
    have cB : Cel (mE (2, 0, vE (pr (2 * cs) (2 * rs) g a b 2), vE (pr (2 * cs) (2 * rs) g a b 3))) := vcel (.inr ⟨_, rfl, q2⟩) (.inr ⟨_, rfl, q3⟩)
    refine Gv.bind_eq (law_predicted_eq G (.inl rfl)) (Gv.bind_eq (law_predicted_eq G (.inr rfl)) (Gv.bind_eq sP (Gv.grd ⟨cP.shaped, cP.shaped⟩ (Gv.neg ?_ (Gv.bind_eq (predicted_eq G false) (Gv.bind_eq (law_predicted_eq G (.inl rfl)) (Gv.pos rfl (Gv.bind_eq sB (Gv.grd ⟨cB.shaped, cB.shaped⟩ (Gv.neg ?_ (Gv.bind (keep_gv G cell) fun v hv => ?_)))))))))))
    · show ¬ (!PyData.eqv (mE (0, 0, vE (pr (2 * cs) (2 * rs) g a b 2), .none)) (mE (0, 0, vE (pr (2 * cs) (2 * rs) g a b 2), .none))) = true
      rw [cP.eqv]
      decide
    · show ¬ (!PyData.eqv (mE (2, 0, vE (pr (2 * cs) (2 * rs) g a b 2), vE (pr (2 * cs) (2 * rs) g a b 3))) (mE (2, 0, vE (pr (2 * cs) (2 * rs) g a b 2), vE (pr (2 * cs) (2 * rs) g a b 3)))) = true
      rw [cB.eqv]
      decide
    obtain ⟨g', rfl, G'⟩ := hv
    refine Gv.pos rfl (Gv.grd (by omega) (Gv.bnd fun far hfar => Gv.bind_eq (a := .go ()) (forR_unit fun p hp => ?_) ?_))
    · unfold F_law_b4
      have out : ¬ (0 ≤ p.1 ∧ p.1 < 2 * cs ∧ 0 ≤ p.2 ∧ p.2 < 2 * rs) := by
        simp only [List.mem_cons, List.not_mem_nil, or_false] at hp
        rcases hp with rfl | rfl | rfl | rfl | rfl | rfl
        · show ¬ (0 ≤ -far ∧ _); omega
        · show ¬ (0 ≤ x ∧ x < 2 * cs ∧ 0 ≤ -far ∧ -far < 2 * rs); omega
        · show ¬ (0 ≤ 2 * cs - 1 + far ∧ 2 * cs - 1 + far < 2 * cs ∧ _); omega
        · show ¬ (0 ≤ x ∧ x < 2 * cs ∧ 0 ≤ 2 * rs - 1 + far ∧ 2 * rs - 1 + far < 2 * rs); omega
        · show ¬ (0 ≤ -far ∧ _); omega
        · show ¬ (0 ≤ 2 * cs + far ∧ 2 * cs + far < 2 * cs ∧ _); omega
      show Rx.bind (F_MotionGrid_motion_at ⟨2 * cs, 2 * rs, g'⟩ p.1 p.2) _ = _
      rw [motion_at_eq G', if_neg out]
      rfl
    rw [aft_go]
    show Gv (F_law_r4 cs rs ⟨2 * cs, 2 * rs, g'⟩ g') _
    unfold F_law_r4
    refine Gv.grd (by omega) (Gv.bind_eq (a := .go ()) (forR_unit fun k hk => ?_) (.of_eq (a := .go (⟨2 * cs, 2 * rs, g'⟩, g')) rfl ⟨_, rfl, g', G', rfl⟩))
    unfold F_law_b5
    rw [grd_pos (by omega), forR_unit, bind_ok, aft_go]
    · rfl
    · intro i hi
      have ac := at_cel (x := i) (y := k) G'
      unfold F_law_b6
      refine Gv.get (Gv.bind (P := fun d => d = if 0 ≤ i ∧ i < 2 * cs ∧ 0 ≤ k ∧ k < 2 * rs then itD (itD g' k) i else .none) ?_ fun d hd => ?_)
      · by_cases c1 : 0 ≤ i
        · by_cases c2 : i < 2 * cs
          · by_cases c3 : 0 ≤ k
            · by_cases c4 : k < 2 * rs
              · obtain ⟨ra, rb⟩ := G'.rowAt c3 c4
                have gl := G'.len
                rw [if_pos c1, if_pos c2, if_pos c3, if_pos c4, if_pos ⟨c1, c2, c3, c4⟩]
                exact Gv.grd (by omega) (Gv.grd (by omega) (.ok rfl))
              · rw [if_pos c1, if_pos c2, if_pos c3, if_neg c4, if_neg (fun z => c4 z.2.2.2)]
                exact .ok rfl
            · rw [if_pos c1, if_pos c2, if_neg c3, if_neg (fun z => c3 z.2.2.1)]
              exact .ok rfl
          · rw [if_pos c1, if_neg c2, if_neg (fun z => c2 z.2.1)]
            exact .ok rfl
        · rw [if_neg c1, if_neg (fun z => c1 z.1)]
          exact .ok rfl
      · subst hd
        unfold F_law_k7
        refine Gv.bind_eq (motion_at_eq G') (Gv.grd ⟨ac.shaped, ac.shaped⟩ (Gv.neg (by rw [ac.eqv]; decide) (.ok rfl)))
  · rintro _ ⟨s, rfl, _⟩
    exact .ok rfl

end Vx
namespace Vx
open PySem PySem.Spec PyProof.Rows L2
def topS (i : Nat) : Stmt := PySem.Challenge.pw_thaumatrope_k32_motion_kept_and_predicte.main.body.getD i (.Pass ⟨0, 0, 0, 0⟩)
abbrev s__law_draws : Stmt := topS 7
abbrev s_MotionGrid___init__ : Stmt := inClass (topS 3) 0
abbrev s__law_cell : Stmt := topS 6
abbrev s__law_vector : Stmt := topS 11
abbrev s__law_median : Stmt := topS 10
abbrev s__law_predicted : Stmt := topS 12
abbrev s__law_component : Stmt := topS 8
abbrev s__law_motion : Stmt := topS 9
abbrev s_MotionGrid__has : Stmt := inClass (topS 3) 6
abbrev s_MotionGrid_keep_quarter : Stmt := inClass (topS 3) 2
abbrev s_MotionGrid_keep : Stmt := inClass (topS 3) 1
abbrev s__law_keep : Stmt := topS 13
abbrev s__median : Stmt := topS 4
abbrev s_MotionGrid_motion_at : Stmt := inClass (topS 3) 3
abbrev s_MotionGrid__vector_at : Stmt := inClass (topS 3) 7
abbrev s_MotionGrid_predicted : Stmt := inClass (topS 3) 4
abbrev s_MotionGrid_skipped : Stmt := inClass (topS 3) 5
abbrev s_law : Stmt := topS 14
structure Ads where
  c_MotionGrid : Addr
  z0 : Addr
def excA (AD : Ads) : Nat → Addr
  | _ => AD.z0
structure Txt (w : World) (K : PySem.W.Frag) (mg : Str → Option Value) (AD : Ads) : Prop where
  b_abs : mg "abs" = none
  b_int : mg "int" = none
  b_range : mg "range" = none
  b_len : mg "len" = none
  b_sorted : mg "sorted" = none
  b_enumerate : mg "enumerate" = none
  g_SECOND : ∃ u, mg "SECOND" = some u ∧ RelV (V.int 3) u
  g_FIRST : ∃ u, mg "FIRST" = some u ∧ RelV (V.int 2) u
  b_isinstance : mg "isinstance" = none
  b_tuple : mg "tuple" = none
  cl_MotionGrid : Cls K AD.c_MotionGrid
  n_MotionGrid__width : NoAttr K AD.c_MotionGrid "_width"
  n_MotionGrid__height : NoAttr K AD.c_MotionGrid "_height"
  n_MotionGrid__lines : NoAttr K AD.c_MotionGrid "_lines"
abbrev pat__law_draws_0 : Pat := (2, [], fun vs _ => vs)
abbrev pats__law_draws : List Pat := [pat__law_draws_0]
abbrev pat_MotionGrid___init___0 : Pat := (3, [], fun vs _ => vs)
abbrev pats_MotionGrid___init__ : List Pat := [pat_MotionGrid___init___0]
abbrev pat__law_cell_0 : Pat := (2, [], fun vs _ => vs)
abbrev pats__law_cell : List Pat := [pat__law_cell_0]
abbrev pat__law_vector_0 : Pat := (4, [], fun vs _ => vs)
abbrev pats__law_vector : List Pat := [pat__law_vector_0]
abbrev pat__law_median_0 : Pat := (1, [], fun vs _ => vs)
abbrev pats__law_median : List Pat := [pat__law_median_0]
abbrev pat__law_predicted_0 : Pat := (4, [], fun vs _ => vs)
abbrev pats__law_predicted : List Pat := [pat__law_predicted_0]
abbrev pat__law_component_0 : Pat := (2, [], fun vs _ => vs)
abbrev pats__law_component : List Pat := [pat__law_component_0]
abbrev pat__law_motion_0 : Pat := (3, [], fun vs _ => vs)
abbrev pats__law_motion : List Pat := [pat__law_motion_0]
abbrev pat_MotionGrid__has_0 : Pat := (3, [], fun vs _ => vs)
abbrev pats_MotionGrid__has : List Pat := [pat_MotionGrid__has_0]
abbrev pat_MotionGrid_keep_quarter_0 : Pat := (4, [], fun vs _ => vs)
abbrev pats_MotionGrid_keep_quarter : List Pat := [pat_MotionGrid_keep_quarter_0]
abbrev pat_MotionGrid_keep_0 : Pat := (4, [], fun vs _ => vs)
abbrev pats_MotionGrid_keep : List Pat := [pat_MotionGrid_keep_0]
abbrev pat__law_keep_0 : Pat := (5, [], fun vs _ => vs)
abbrev pats__law_keep : List Pat := [pat__law_keep_0]
abbrev pat__median_0 : Pat := (1, [], fun vs _ => vs)
abbrev pats__median : List Pat := [pat__median_0]
abbrev pat_MotionGrid_motion_at_0 : Pat := (3, [], fun vs _ => vs)
abbrev pats_MotionGrid_motion_at : List Pat := [pat_MotionGrid_motion_at_0]
abbrev pat_MotionGrid__vector_at_0 : Pat := (4, [], fun vs _ => vs)
abbrev pats_MotionGrid__vector_at : List Pat := [pat_MotionGrid__vector_at_0]
def gk_MotionGrid_predicted_0 {α : Type} (us mz ws : List α) : List α := match us, mz, ws with | [a0, a1, a2], [m0], [] => [a0, a1, a2, m0] | _, _, _ => []
theorem gknil_MotionGrid_predicted_0 {α : Type} {us mz ws : List α} (h : us.length ≠ 3 ∨ mz.length ≠ 1 ∨ ws.length ≠ 0) : gk_MotionGrid_predicted_0 us mz ws = [] := by
  unfold gk_MotionGrid_predicted_0
  split
  · simp at h
  · rfl
theorem gkrel_MotionGrid_predicted_0 {vs mz zs : List V} {us mv ws : List Value} (r : Vals vs us) (s : Vals mz mv) (q : Vals zs ws) : Vals (gk_MotionGrid_predicted_0 vs mz zs) (gk_MotionGrid_predicted_0 us mv ws) := by
  by_cases h1 : vs.length = 3
  · by_cases h2 : mz.length = 1
    · by_cases h3 : zs.length = 0
      · obtain ⟨a0, a1, a2, rfl⟩ := len3 h1
        obtain ⟨m0, rfl⟩ := len1 h2
        obtain rfl := len0 h3
        cases r with | cons r0 r =>
          cases r with | cons r1 r =>
            cases r with | cons r2 r =>
              cases r
              cases s with | cons s0 s =>
                cases s
                cases q
                exact (.cons r0 (.cons r1 (.cons r2 (.cons s0 .nil))))
      · have k : ws.length ≠ 0 := fun z => h3 (q.length.trans z)
        rw [gknil_MotionGrid_predicted_0 (by first | exact .inl h3 | exact .inr (.inl h3) | exact .inr (.inr h3)), gknil_MotionGrid_predicted_0 (by first | exact .inl k | exact .inr (.inl k) | exact .inr (.inr k))]
        exact .nil
    · have k : mv.length ≠ 1 := fun z => h2 (s.length.trans z)
      rw [gknil_MotionGrid_predicted_0 (by first | exact .inl h2 | exact .inr (.inl h2) | exact .inr (.inr h2)), gknil_MotionGrid_predicted_0 (by first | exact .inl k | exact .inr (.inl k) | exact .inr (.inr k))]
      exact .nil
  · have k : us.length ≠ 3 := fun z => h1 (r.length.trans z)
    rw [gknil_MotionGrid_predicted_0 (by first | exact .inl h1 | exact .inr (.inl h1) | exact .inr (.inr h1)), gknil_MotionGrid_predicted_0 (by first | exact .inl k | exact .inr (.inl k) | exact .inr (.inr k))]
    exact .nil
abbrev pat_MotionGrid_predicted_0 : Pat := (3, [], fun vs zs => gk_MotionGrid_predicted_0 vs [V.bl false] zs)
abbrev pat_MotionGrid_predicted_1 : Pat := (3, ["second"], fun vs zs => match vs, zs with | [a0, a1, a2], [b0] => [a0, a1, a2, b0] | _, _ => [])
abbrev pats_MotionGrid_predicted : List Pat := [pat_MotionGrid_predicted_0, pat_MotionGrid_predicted_1]
abbrev pat_MotionGrid_skipped_0 : Pat := (4, [], fun vs _ => vs)
abbrev pats_MotionGrid_skipped : List Pat := [pat_MotionGrid_skipped_0]
abbrev pats_law : List Pat := []
def sp__law_draws (K : PySem.W.Frag) (AD : Ads) : Sp := fun vs H Q E => ∃ (G : Hp) (cell' : Int) (a_limits : Addr) (limits' : List Int), vs = [.int cell', .ref a_limits] ∧ Same G H ∧ (hideL [] H) a_limits = some (.lst ((limits' : List Int).map V.int)) ∧ cW (F__law_draws cell' limits') (fun v => ∀ p H', H p = none → Same H H' → H' p = some (.lst (v.map V.int)) → Q (.ref p) H') (fun e => ∀ H', Same H H' → E (.ref (excA AD e)) none H')
def sp_MotionGrid___init__ (K : PySem.W.Frag) (AD : Ads) : Sp := fun vs H Q E => ∃ (G : Hp) (p_self dx_self : Addr) (columns' : Int) (rows' : Int), vs = [.ref p_self, .int columns', .int rows'] ∧ Same G H ∧ (∀ a ∈ [p_self], G a = none) ∧ H p_self = some (.ins AD.c_MotionGrid dx_self []) ∧ cW (F_MotionGrid___init__ columns' rows') (fun v => ∀ (H' G' : Hp) (l_lines : Addr) (vs_lines : List V) (L_lines : List Addr), SameX p_self H H' → Same G G' → Same G' H' → (∀ b, H b ≠ none → G b = none → G' b = none) → H l_lines = none → G' l_lines = none → (∀ b ∈ L_lines, H b = none) → (∀ b ∈ L_lines, G' b = none) → (∀ b ∈ L_lines, b ≠ l_lines) → H' p_self = some (.ins AD.c_MotionGrid dx_self [("_width", V.int v.width), ("_height", V.int v.height), ("_lines", V.ref l_lines)]) → H' l_lines = some (.lst vs_lines) → OwAll G' H' L_lines vs_lines ((v.lines : (List (List PyData))).map (oL (oF encD))) → Q .non H') (fun e => ∀ H', SameX p_self H H' → E (.ref (excA AD e)) none H')
def sp__law_cell (K : PySem.W.Frag) (AD : Ads) : Sp := fun vs H Q E => ∃ (G : Hp) (a_script : Addr) (script' : List Int) (k' : Int), vs = [.ref a_script, .int k'] ∧ Same G H ∧ SqL K H a_script ((script' : List Int).map V.int) ∧ cW (F__law_cell script' k') (fun v => Q (.int v) H) (fun e => E (.ref (excA AD e)) none H)
def sp__law_vector (K : PySem.W.Frag) (AD : Ads) : Sp := fun vs H Q E => ∃ (G : Hp) (a_grid : Addr) (vs_grid : List V) (L_grid : List Addr) (grid' : (List (List PyData))) (x' : Int) (y' : Int) (second' : Int), vs = [.ref a_grid, .int x', .int y', .int second'] ∧ Same G H ∧ (hideL [] H) a_grid = some (.lst vs_grid) ∧ OwAll G (hideL [] H) L_grid vs_grid ((grid' : (List (List PyData))).map (oL (oF encD))) ∧ cW (F__law_vector grid' x' y' second') (fun v => ∀ u H' G', Same H H' → Same G G' → Same G' H' → (∀ b, H b ≠ none → G b = none → G' b = none) → Rp G' u ((encT2 PyData.int PyData.int) v) → Q u H') (fun e => ∀ H', Same H H' → E (.ref (excA AD e)) none H')
def sp__law_median (K : PySem.W.Frag) (AD : Ads) : Sp := fun vs H Q E => ∃ (G : Hp) (a_values : Addr) (values' : List Int), vs = [.ref a_values] ∧ Same G H ∧ (hideL [] H) a_values = some (.lst ((values' : List Int).map V.int)) ∧ cW (F__law_median values') (fun v => ∀ H', Same H H' → Q (.int v) H') (fun e => ∀ H', Same H H' → E (.ref (excA AD e)) none H')
def sp__law_predicted (K : PySem.W.Frag) (AD : Ads) : Sp := fun vs H Q E => ∃ (G : Hp) (a_grid : Addr) (vs_grid : List V) (L_grid : List Addr) (grid' : (List (List PyData))) (x' : Int) (y' : Int) (second' : Int), vs = [.ref a_grid, .int x', .int y', .int second'] ∧ Same G H ∧ (hideL [] H) a_grid = some (.lst vs_grid) ∧ OwAll G (hideL [] H) L_grid vs_grid ((grid' : (List (List PyData))).map (oL (oF encD))) ∧ cW (F__law_predicted grid' x' y' second') (fun v => ∀ u H' G', Same H H' → Same G G' → Same G' H' → (∀ b, H b ≠ none → G b = none → G' b = none) → Rp G' u ((encT2 PyData.int PyData.int) v) → Q u H') (fun e => ∀ H', Same H H' → E (.ref (excA AD e)) none H')
def sp__law_component (K : PySem.W.Frag) (AD : Ads) : Sp := fun vs H Q E => ∃ (G : Hp) (first' : Int) (second' : Int), vs = [.int first', .int second'] ∧ Same G H ∧ cW (F__law_component first' second') (fun v => ∀ H', Same H H' → Q (.int v) H') (fun e => ∀ H', Same H H' → E (.ref (excA AD e)) none H')
def sp__law_motion (K : PySem.W.Frag) (AD : Ads) : Sp := fun vs H Q E => ∃ (G : Hp) (cell' : Int) (kind' : Int) (refs' : Int), vs = [.int cell', .int kind', .int refs'] ∧ Same G H ∧ cW (F__law_motion cell' kind' refs') (fun v => ∀ u H' G', Same H H' → Same G G' → Same G' H' → (∀ b, H b ≠ none → G b = none → G' b = none) → Rp G' u (encD v) → Q u H') (fun e => ∀ H', Same H H' → E (.ref (excA AD e)) none H')
def sp_MotionGrid__has (K : PySem.W.Frag) (AD : Ads) : Sp := fun vs H Q E => ∃ (G : Hp) (p_self l_self_lines dx_self : Addr) (vs_self_lines : List V) (L_self_lines : List Addr) (self' : St_MotionGrid) (x' : Int) (y' : Int), vs = [.ref p_self, .int x', .int y'] ∧ Same G H ∧ (hideL [] H) p_self = some (.ins AD.c_MotionGrid dx_self [("_width", V.int self'.width), ("_height", V.int self'.height), ("_lines", V.ref l_self_lines)]) ∧ (hideL [] H) l_self_lines = some (.lst (vs_self_lines)) ∧ OwAll G (hideL [] H) L_self_lines vs_self_lines ((self'.lines : (List (List PyData))).map (oL (oF encD))) ∧ cW (F_MotionGrid__has self' x' y') (fun v => ∀ H', Same H H' → Q (.bl v) H') (fun e => ∀ H', Same H H' → E (.ref (excA AD e)) none H')
def sp_MotionGrid_keep_quarter (K : PySem.W.Frag) (AD : Ads) : Sp := fun vs H Q E => ∃ (G : Hp) (p_self l_self_lines dx_self : Addr) (vs_self_lines : List V) (L_self_lines : List Addr) (self' : St_MotionGrid) (x' : Int) (y' : Int) (v_motion : V) (motion' : PyData), vs = [.ref p_self, .int x', .int y', v_motion] ∧ Same G H ∧ (∀ a ∈ (p_self :: (l_self_lines :: (L_self_lines ++ []))), G a = none) ∧ H p_self = some (.ins AD.c_MotionGrid dx_self [("_width", V.int self'.width), ("_height", V.int self'.height), ("_lines", V.ref l_self_lines)]) ∧ H l_self_lines = some (.lst (vs_self_lines)) ∧ OwAll G H L_self_lines vs_self_lines ((self'.lines : (List (List PyData))).map (oL (oF encD))) ∧ (∀ b ∈ L_self_lines, b ≠ p_self) ∧ (∀ b ∈ L_self_lines, b ≠ l_self_lines) ∧ Rp G v_motion (encD motion') ∧ cW (F_MotionGrid_keep_quarter self' x' y' motion') (fun v => ∀ (H' G' : Hp) (vs'_self_lines : List V) (L'_self_lines : List Addr), SameXs (p_self :: (l_self_lines :: (L_self_lines ++ []))) H H' → Same G G' → Same G' H' → (∀ b, H b ≠ none → G b = none → G' b = none) → (∀ b ∈ (p_self :: (l_self_lines :: (L_self_lines ++ []))), H' b ≠ none) → H' p_self = some (.ins AD.c_MotionGrid dx_self [("_width", V.int v.width), ("_height", V.int v.height), ("_lines", V.ref l_self_lines)]) → H' l_self_lines = some (.lst (vs'_self_lines)) → (∀ b ∈ L'_self_lines, b ∈ L_self_lines ∨ H b = none) → (∀ b ∈ L'_self_lines, G' b = none) → (∀ b ∈ L'_self_lines, b ≠ p_self) → (∀ b ∈ L'_self_lines, b ≠ l_self_lines) → OwAll G' H' L'_self_lines vs'_self_lines ((v.lines : (List (List PyData))).map (oL (oF encD))) → Q .non H') (fun e => ∀ H', Same H H' → E (.ref (excA AD e)) none H')
def sp_MotionGrid_keep (K : PySem.W.Frag) (AD : Ads) : Sp := fun vs H Q E => ∃ (G : Hp) (p_self l_self_lines dx_self : Addr) (vs_self_lines : List V) (L_self_lines : List Addr) (self' : St_MotionGrid) (column' : Int) (row' : Int) (v_motions : V) (motions' : (Option (List PyData))), vs = [.ref p_self, .int column', .int row', v_motions] ∧ Same G H ∧ (∀ a ∈ (p_self :: (l_self_lines :: (L_self_lines ++ []))), G a = none) ∧ H p_self = some (.ins AD.c_MotionGrid dx_self [("_width", V.int self'.width), ("_height", V.int self'.height), ("_lines", V.ref l_self_lines)]) ∧ H l_self_lines = some (.lst (vs_self_lines)) ∧ OwAll G H L_self_lines vs_self_lines ((self'.lines : (List (List PyData))).map (oL (oF encD))) ∧ (∀ b ∈ L_self_lines, b ≠ p_self) ∧ (∀ b ∈ L_self_lines, b ≠ l_self_lines) ∧ OptF G (hideL (p_self :: (l_self_lines :: (L_self_lines ++ []))) H) v_motions motions' encD ∧ cW (F_MotionGrid_keep self' column' row' motions') (fun v => ∀ (H' G' : Hp) (vs'_self_lines : List V) (L'_self_lines : List Addr), SameXs (p_self :: (l_self_lines :: (L_self_lines ++ []))) H H' → Same G G' → Same G' H' → (∀ b, H b ≠ none → G b = none → G' b = none) → (∀ b ∈ (p_self :: (l_self_lines :: (L_self_lines ++ []))), H' b ≠ none) → H' p_self = some (.ins AD.c_MotionGrid dx_self [("_width", V.int v.width), ("_height", V.int v.height), ("_lines", V.ref l_self_lines)]) → H' l_self_lines = some (.lst (vs'_self_lines)) → (∀ b ∈ L'_self_lines, b ∈ L_self_lines ∨ H b = none) → (∀ b ∈ L'_self_lines, G' b = none) → (∀ b ∈ L'_self_lines, b ≠ p_self) → (∀ b ∈ L'_self_lines, b ≠ l_self_lines) → OwAll G' H' L'_self_lines vs'_self_lines ((v.lines : (List (List PyData))).map (oL (oF encD))) → Q .non H') (fun e => ∀ H', Same H H' → E (.ref (excA AD e)) none H')
def sp__law_keep (K : PySem.W.Frag) (AD : Ads) : Sp := fun vs H Q E => ∃ (G : Hp) (p_actual l_actual_lines dx_actual : Addr) (vs_actual_lines : List V) (L_actual_lines : List Addr) (actual' : St_MotionGrid) (a_grid : Addr) (vs_grid : List V) (L_grid : List Addr) (grid' : (List (List PyData))) (cell' : Int) (columns' : Int) (rows' : Int), vs = [.ref p_actual, .ref a_grid, .int cell', .int columns', .int rows'] ∧ Same G H ∧ (∀ a ∈ (p_actual :: (l_actual_lines :: (L_actual_lines ++ (a_grid :: (L_grid ++ []))))), G a = none) ∧ H p_actual = some (.ins AD.c_MotionGrid dx_actual [("_width", V.int actual'.width), ("_height", V.int actual'.height), ("_lines", V.ref l_actual_lines)]) ∧ H l_actual_lines = some (.lst (vs_actual_lines)) ∧ OwAll G H L_actual_lines vs_actual_lines ((actual'.lines : (List (List PyData))).map (oL (oF encD))) ∧ (∀ b ∈ L_actual_lines, b ≠ p_actual) ∧ (∀ b ∈ L_actual_lines, b ≠ l_actual_lines) ∧ H a_grid = some (.lst (vs_grid)) ∧ OwAll G H L_grid vs_grid ((grid' : (List (List PyData))).map (oL (oF encD))) ∧ (∀ b ∈ L_grid, b ≠ a_grid) ∧ p_actual ≠ a_grid ∧ (∀ b ∈ L_grid, b ≠ p_actual) ∧ l_actual_lines ≠ a_grid ∧ (∀ b ∈ L_grid, b ≠ l_actual_lines) ∧ (∀ b ∈ L_actual_lines, b ≠ a_grid) ∧ (∀ b ∈ L_actual_lines, b ∉ L_grid) ∧ cW (F__law_keep actual' grid' cell' columns' rows') (fun v => ∀ (H' G' : Hp) (vs'_actual_lines : List V) (L'_actual_lines : List Addr) (vs'_grid : List V) (L'_grid : List Addr), SameXs (p_actual :: (l_actual_lines :: (L_actual_lines ++ (a_grid :: (L_grid ++ []))))) H H' → Same G G' → Same G' H' → (∀ b, H b ≠ none → G b = none → G' b = none) → (∀ b ∈ (p_actual :: (l_actual_lines :: (L_actual_lines ++ (a_grid :: (L_grid ++ []))))), H' b ≠ none) → H' p_actual = some (.ins AD.c_MotionGrid dx_actual [("_width", V.int v.2.1.width), ("_height", V.int v.2.1.height), ("_lines", V.ref l_actual_lines)]) → H' l_actual_lines = some (.lst (vs'_actual_lines)) → H' a_grid = some (.lst (vs'_grid)) → (∀ b ∈ L'_actual_lines, b ∈ L_actual_lines ∨ H b = none) → (∀ b ∈ L'_actual_lines, G' b = none) → (∀ b ∈ L'_grid, b ∈ L_grid ∨ H b = none) → (∀ b ∈ L'_grid, G' b = none) → (∀ b ∈ L'_actual_lines, b ≠ p_actual) → (∀ b ∈ L'_actual_lines, b ≠ l_actual_lines) → (∀ b ∈ L'_actual_lines, b ≠ a_grid) → (∀ b ∈ L'_grid, b ≠ p_actual) → (∀ b ∈ L'_grid, b ≠ l_actual_lines) → (∀ b ∈ L'_grid, b ≠ a_grid) → (∀ b ∈ L'_actual_lines, b ∉ L'_grid) → OwAll G' H' L'_actual_lines vs'_actual_lines ((v.2.1.lines : (List (List PyData))).map (oL (oF encD))) → OwAll G' H' L'_grid vs'_grid ((v.2.2 : (List (List PyData))).map (oL (oF encD))) → Q (.bl v.1) H') (fun e => ∀ H', Same H H' → E (.ref (excA AD e)) none H')
def sp__median (K : PySem.W.Frag) (AD : Ads) : Sp := fun vs H Q E => ∃ (G : Hp) (a_numbers : Addr) (numbers' : List Int), vs = [.ref a_numbers] ∧ Same G H ∧ (hideL [] H) a_numbers = some (.lst ((numbers' : List Int).map V.int)) ∧ cW (F__median numbers') (fun v => ∀ H', Same H H' → Q (.int v) H') (fun e => ∀ H', Same H H' → E (.ref (excA AD e)) none H')
def sp_MotionGrid_motion_at (K : PySem.W.Frag) (AD : Ads) : Sp := fun vs H Q E => ∃ (G : Hp) (p_self l_self_lines dx_self : Addr) (vs_self_lines : List V) (L_self_lines : List Addr) (self' : St_MotionGrid) (x' : Int) (y' : Int), vs = [.ref p_self, .int x', .int y'] ∧ Same G H ∧ (hideL [] H) p_self = some (.ins AD.c_MotionGrid dx_self [("_width", V.int self'.width), ("_height", V.int self'.height), ("_lines", V.ref l_self_lines)]) ∧ (hideL [] H) l_self_lines = some (.lst (vs_self_lines)) ∧ OwAll G (hideL [] H) L_self_lines vs_self_lines ((self'.lines : (List (List PyData))).map (oL (oF encD))) ∧ cW (F_MotionGrid_motion_at self' x' y') (fun v => ∀ u H' G', Same H H' → Same G G' → Same G' H' → (∀ b, H b ≠ none → G b = none → G' b = none) → Rp G' u (encD v) → Q u H') (fun e => ∀ H', Same H H' → E (.ref (excA AD e)) none H')
def sp_MotionGrid__vector_at (K : PySem.W.Frag) (AD : Ads) : Sp := fun vs H Q E => ∃ (G : Hp) (p_self l_self_lines dx_self : Addr) (vs_self_lines : List V) (L_self_lines : List Addr) (self' : St_MotionGrid) (x' : Int) (y' : Int) (place' : Int), vs = [.ref p_self, .int x', .int y', .int place'] ∧ Same G H ∧ (hideL [] H) p_self = some (.ins AD.c_MotionGrid dx_self [("_width", V.int self'.width), ("_height", V.int self'.height), ("_lines", V.ref l_self_lines)]) ∧ (hideL [] H) l_self_lines = some (.lst (vs_self_lines)) ∧ OwAll G (hideL [] H) L_self_lines vs_self_lines ((self'.lines : (List (List PyData))).map (oL (oF encD))) ∧ cW (F_MotionGrid__vector_at self' x' y' place') (fun v => ∀ u H' G', Same H H' → Same G G' → Same G' H' → (∀ b, H b ≠ none → G b = none → G' b = none) → Rp G' u ((encT2 PyData.int PyData.int) v) → Q u H') (fun e => ∀ H', Same H H' → E (.ref (excA AD e)) none H')
def sp_MotionGrid_predicted (K : PySem.W.Frag) (AD : Ads) : Sp := fun vs H Q E => ∃ (G : Hp) (p_self l_self_lines dx_self : Addr) (vs_self_lines : List V) (L_self_lines : List Addr) (self' : St_MotionGrid) (x' : Int) (y' : Int) (second' : Bool), vs = [.ref p_self, .int x', .int y', .bl second'] ∧ Same G H ∧ (hideL [] H) p_self = some (.ins AD.c_MotionGrid dx_self [("_width", V.int self'.width), ("_height", V.int self'.height), ("_lines", V.ref l_self_lines)]) ∧ (hideL [] H) l_self_lines = some (.lst (vs_self_lines)) ∧ OwAll G (hideL [] H) L_self_lines vs_self_lines ((self'.lines : (List (List PyData))).map (oL (oF encD))) ∧ cW (F_MotionGrid_predicted self' x' y' second') (fun v => ∀ u H' G', Same H H' → Same G G' → Same G' H' → (∀ b, H b ≠ none → G b = none → G' b = none) → Rp G' u ((encT2 PyData.int PyData.int) v) → Q u H') (fun e => ∀ H', Same H H' → E (.ref (excA AD e)) none H')
def sp_MotionGrid_skipped (K : PySem.W.Frag) (AD : Ads) : Sp := fun vs H Q E => ∃ (G : Hp) (p_self l_self_lines dx_self : Addr) (vs_self_lines : List V) (L_self_lines : List Addr) (self' : St_MotionGrid) (column' : Int) (row' : Int) (kind' : Str), vs = [.ref p_self, .int column', .int row', .str kind'] ∧ Same G H ∧ (hideL [] H) p_self = some (.ins AD.c_MotionGrid dx_self [("_width", V.int self'.width), ("_height", V.int self'.height), ("_lines", V.ref l_self_lines)]) ∧ (hideL [] H) l_self_lines = some (.lst (vs_self_lines)) ∧ OwAll G (hideL [] H) L_self_lines vs_self_lines ((self'.lines : (List (List PyData))).map (oL (oF encD))) ∧ cW (F_MotionGrid_skipped self' column' row' kind') (fun v => ∀ u H' G', Same H H' → Same G G' → Same G' H' → (∀ b, H b ≠ none → G b = none → G' b = none) → Rp G' u ((encT4 PyData.int PyData.int (encT2 PyData.int PyData.int) encD) v) → Q u H') (fun e => ∀ H', Same H H' → E (.ref (excA AD e)) none H')
def sp_law (K : PySem.W.Frag) (AD : Ads) : Sp := fun vs H Q E => ∃ (a_script : Addr) (script : List Int), vs = [.ref a_script] ∧ SqL K H a_script (script.map V.int) ∧ cW (F_law script) (fun v => v = true) (fun _ => False) ∧ ∀ H', Q (.bl true) H'
section
variable {P : Program} {w : World} {K : PySem.W.Frag} {mg : Str → Option Value} {base : Heap} {AD : Ads}
abbrev N__law_draws : List Str := ["cell", "limits", "found", "rest", "state", "free", "limit"]
theorem sc__law_draws : FnScope N__law_draws ["cell", "limits"] (defScope s__law_draws) := ⟨rfl, rfl, rfl, by decide +kernel, rfl, by decide +kernel, by decide +kernel⟩
theorem ok__law_draws (D : DefX K mg "_law_draws" s__law_draws ["cell", "limits"] pats__law_draws) (T : Txt w K mg AD)  : CalX P w K mg base 1 "_law_draws" (sp__law_draws K AD) pats__law_draws := by
  refine D.ok sc__law_draws (fun vs H Q E h => ?_) (fun f cdv A_ outer s H vs Q E hr h => ?_)
  · obtain ⟨G, cell', a_limits, limits', rfl, _⟩ := h
    rfl
  · obtain ⟨G, cell', a_limits, limits', rfl, sG, q_limits, hw⟩ := h
    refine ⟨_, (pss_cons (ps_set (i := 2) sc__law_draws.nd rfl (Or.inl rfl) (pe_lst pa_nil))
      (pss_cons (ps_set (i := 3) sc__law_draws.nd rfl (Or.inl rfl) (pe_callB call_abs (by rfl) T.b_abs (by decide +kernel) (pa_cons (pe_callTy call_int1 (by rfl) T.b_int (by decide +kernel) (pa_cons (pv 0) pa_nil)) pa_nil)))
      (pss_cons (ps_set (i := 4) sc__law_draws.nd rfl (Or.inl rfl) (pe_op op_mod (pe_callTy call_int1 (by rfl) T.b_int (by decide +kernel) (pa_cons (pv 3) pa_nil)) pe_int))
      (pss_cons (ps_set (i := 5) sc__law_draws.nd rfl (Or.inl rfl) (pe_or (pe_cmp (pc_lt (pv 0) pe_int)) (pe_one (pe_cmp (pc_ge (pv 0) (pe_op op_pow pe_int pe_int))))))
      (pss_cons (ps_for (passes_of rfl) rfl (pi_listK (K := K) (pv 1)) (pg_name (i := 6) sc__law_draws.nd rfl (Or.inl rfl)) (pss_one (ps_if (PW.pt (pw_and (pt_val (pv 5)) (pw_and1 (pt_cmp (pc_gt (pv 3) pe_int))))) (pss_cons (ps_expr (pe_bm PySem.F.plainAttrs_list PySem.F.slot_list_append PySem.F.type_list_append mt_append (pv 2) (pa_cons (pe_op op_mod (pe_callTy call_int1 (by rfl) T.b_int (by decide +kernel) (pa_cons (pv 3) pa_nil)) (pv 6)) pa_nil)))
      (pss_one (ps_set (i := 3) sc__law_draws.nd rfl (Or.inl rfl) (pe_op op_fdivW (pv 3) (pv 6))))) (pss_cons (ps_set (i := 4) sc__law_draws.nd rfl (Or.inl rfl) (pe_op op_mod (pe_callTy call_int1 (by rfl) T.b_int (by decide +kernel) (pa_cons (pe_op op_add (pe_op op_mul (pv 4) pe_int) pe_int) pa_nil)) pe_int))
      (pss_cons (ps_set (i := 4) sc__law_draws.nd rfl (Or.inl rfl) (pe_op op_mod (pe_callTy call_int1 (by rfl) T.b_int (by decide +kernel) (pa_cons (pe_op op_add (pe_op op_mul (pv 4) pe_int) pe_int) pa_nil)) pe_int))
      (pss_one (ps_expr (pe_bm PySem.F.plainAttrs_list PySem.F.slot_list_append PySem.F.type_list_append mt_append (pv 2) (pa_cons (pe_op op_mod (pe_callTy call_int1 (by rfl) T.b_int (by decide +kernel) (pa_cons (pe_op op_fdivW (pv 4) pe_int) pa_nil)) (pv 6)) pa_nil)))))))))
      (pss_one (ps_ret (pv 2)))))))), ?_⟩
    obtain ⟨KK, EE, hK0, hE, hw⟩ := cW_gen hw
    have S0 := Sep.startG sG
    unfold F__law_draws at hw
    refine ⟨(by show 0 ≤ sizeLine; decide), fun p1 n2 => ?_⟩
    generalize g3 : upd H p1 _ = H4
    obtain ⟨e5, h6⟩ := gen_new n2 g3
    have h7 : H4 p1 = some (.lst ((([] : (List Int)) : (List Int)).map V.int)) := h6
    have fr8 := S0.free n2
    have S9 := S0.new n2 e5 h7 fr8
    refine ⟨_, rfl, .inl ⟨_, rfl, ?_⟩⟩
    refine ⟨_, rfl, ?_⟩
    have hw := cW_bnd hw
    refine ⟨_, rfl, .inl ⟨_, rfl, ?_⟩⟩
    refine ⟨_, _, rfl, rfl, (show (0 : Int) < 2147483647 by decide), ?_⟩
    have hw := cW_bnd hw
    refine vv_or (ta := (tLt (tVar 0) (tC (V.int 0)))) (tb := (tGe (tVar 0) (tOp (rI CPow fun i j => V.int (i ^ j.toNat)) (tC (V.int 10)) (tC (V.int 18))))) (a := decide (cell' < 0)) (b := decide (((10 : Int) ^ Int.toNat 18) ≤ cell')) ?ha12 ?hb13 _ ?_
    case ha12 => exact (vv_cmp (val_var rfl) val_c (fun Q q => ⟨_, _, rfl, rfl, q⟩))
    case hb13 => exact (vv_cmp (val_var rfl) (val_op val_c val_c (fun Q q => ⟨_, _, rfl, rfl, ⟨by decide, by decide, by decide⟩, q⟩)) (fun Q q => ⟨_, _, rfl, rfl, q⟩))
    have hw := cW_bnd hw
    obtain ⟨K16, hK17, hw⟩ := cW_push hw
    refine ⟨_, rfl, _, rfl, ⟨_, (SqL.of (S9.bM _ _ q_limits))⟩, for_list (K := K) (a := a_limits) (xs := (limits' : List Int).map V.int) (fun i σ H' => ∃ (found_18 : (List Int)) (rest_19 : Int) (state_20 : Int) (u21 : Option V) (G' : Hp), σ = [some (V.int (cell')), some (V.ref a_limits), some (V.ref p1), some (V.int rest_19), some (V.int state_20), some (V.bl ((decide (cell' < 0) || decide (((10 : Int) ^ Int.toNat 18) ≤ cell')))), u21] ∧ Same G G' ∧ Sep [] H G G' H' [p1] ∧ H' p1 = some (.lst ((found_18 : (List Int)).map V.int)) ∧ cW (forS (List.drop i (limits')) (found_18, rest_19, state_20) (fun s x => F__law_draws_b1 ((decide (cell' < 0) || decide (((10 : Int) ^ Int.toNat 18) ≤ cell'))) (s.1) (s.2.1) (s.2.2) x)) K16 EE) ?_ ?_ ?_ ?_⟩
    · exact ⟨(([] : (List Int))), ((if cell' < 0 then -cell' else cell')), (((if cell' < 0 then -cell' else cell') % 2147483647)), _, _, rfl, (Same.refl _), S9, h7, hw⟩
    · intro i σ H22 _ hw
      obtain ⟨found_18, rest_19, state_20, u21, G25, rfl, eG26, S23, h24, hw⟩ := hw
      exact (SqL.of (S23.bM _ _ q_limits))
    · intro i x σ H27 hj hw
      obtain ⟨found_18, rest_19, state_20, u21, G30, rfl, eG31, S28, h29, hw⟩ := hw
      obtain ⟨x32, hx, rfl⟩ := map_get hj
      have hw := cW_forS hx hw
      have hw : cW (F__law_draws_b1 ((decide (cell' < 0) || decide (((10 : Int) ^ Int.toNat 18) ≤ cell'))) (found_18) (rest_19) (state_20) (x32)) _ EE := hw
      unfold F__law_draws_b1 at hw
      obtain ⟨K36, hK37, hw⟩ := cW_name hw
      refine ⟨_, rfl, _, rfl, ?_⟩
      refine iteB (fun c39 => ?_) (fun c39 => ?_)
      · have hw := cW_pos c39 hw
        refine ⟨_, rfl, _, _, rfl, rfl, _, rfl, ?_⟩
        refine iteD (fun c40 => ?_) (fun c40 => ?_)
        · have hw := cW_pos c40 hw
          refine ⟨_, rfl, (.inl ⟨rfl, _, SqL.of h29⟩), _, rfl, .inl ⟨_, rfl, ?_⟩⟩
          obtain ⟨g41, hw⟩ := cW_grd hw
          obtain ⟨g42, hw⟩ := cW_grd hw
          refine ⟨_, rfl, _, _, rfl, rfl, g41, _, _, _, rfl, rfl, h29, (app_lenM g42), ?_⟩
          generalize g43 : upd H27 p1 _ = H44
          obtain ⟨x45, h46⟩ := gen_mut g43
          have h47 : H44 p1 = some (.lst (((found_18) ++ [(rest_19 % x32)] : (List Int)).map V.int)) := snoc_map h46
          have S48 := S28.mut1 x45 (.head _) h47
          have hw := cW_bnd hw
          obtain ⟨g50, hw⟩ := cW_grd hw
          refine ⟨_, rfl, _, rfl, _, _, rfl, rfl, (divW_small g50.1 g50.2), ?_⟩
          have hw := cW_bnd hw
          have hw := cW_ok hw
          have hw := hK37 _ hw
          exact ⟨((found_18) ++ [(rest_19 % x32)]), ((rest_19 / x32)), (state_20), _, _, rfl, eG31, S48, h47, hw⟩
        · have hw := cW_neg c40 hw
          refine ⟨_, rfl, _, _, rfl, rfl, (.inr ⟨by decide, by decide⟩), _, _, rfl, rfl, .inl ⟨_, rfl, ?_⟩⟩
          refine ⟨_, _, rfl, rfl, (show (0 : Int) < 2147483647 by decide), ?_⟩
          have hw := cW_bnd hw
          refine ⟨_, rfl, _, _, rfl, rfl, (.inr ⟨by decide, by decide⟩), _, _, rfl, rfl, .inl ⟨_, rfl, ?_⟩⟩
          refine ⟨_, _, rfl, rfl, (show (0 : Int) < 2147483647 by decide), ?_⟩
          have hw := cW_bnd hw
          refine ⟨_, rfl, (.inl ⟨rfl, _, SqL.of h29⟩), _, rfl, _, _, rfl, rfl, (divW_lit (by decide) (by decide)), .inl ⟨_, rfl, ?_⟩⟩
          obtain ⟨g54, hw⟩ := cW_grd hw
          obtain ⟨g55, hw⟩ := cW_grd hw
          refine ⟨_, rfl, _, _, rfl, rfl, g54, _, _, _, rfl, rfl, h29, (app_lenM g55), ?_⟩
          generalize g56 : upd H27 p1 _ = H57
          obtain ⟨x58, h59⟩ := gen_mut g56
          have h60 : H57 p1 = some (.lst (((found_18) ++ [((((((((state_20 * 48271) + 11) % 2147483647) * 69621) + 7) % 2147483647) / 13) % x32)] : (List Int)).map V.int)) := snoc_map h59
          have S61 := S28.mut1 x58 (.head _) h60
          have hw := cW_bnd hw
          have hw := cW_ok hw
          have hw := hK37 _ hw
          exact ⟨((found_18) ++ [((((((((state_20 * 48271) + 11) % 2147483647) * 69621) + 7) % 2147483647) / 13) % x32)]), (rest_19), (((((((state_20 * 48271) + 11) % 2147483647) * 69621) + 7) % 2147483647)), _, _, rfl, eG31, S61, h60, hw⟩
      · have hw := cW_negB c39 hw
        refine iteF ?_
        refine ⟨_, rfl, _, _, rfl, rfl, (.inr ⟨by decide, by decide⟩), _, _, rfl, rfl, .inl ⟨_, rfl, ?_⟩⟩
        refine ⟨_, _, rfl, rfl, (show (0 : Int) < 2147483647 by decide), ?_⟩
        have hw := cW_bnd hw
        refine ⟨_, rfl, _, _, rfl, rfl, (.inr ⟨by decide, by decide⟩), _, _, rfl, rfl, .inl ⟨_, rfl, ?_⟩⟩
        refine ⟨_, _, rfl, rfl, (show (0 : Int) < 2147483647 by decide), ?_⟩
        have hw := cW_bnd hw
        refine ⟨_, rfl, (.inl ⟨rfl, _, SqL.of h29⟩), _, rfl, _, _, rfl, rfl, (divW_lit (by decide) (by decide)), .inl ⟨_, rfl, ?_⟩⟩
        obtain ⟨g65, hw⟩ := cW_grd hw
        obtain ⟨g66, hw⟩ := cW_grd hw
        refine ⟨_, rfl, _, _, rfl, rfl, g65, _, _, _, rfl, rfl, h29, (app_lenM g66), ?_⟩
        generalize g67 : upd H27 p1 _ = H68
        obtain ⟨x69, h70⟩ := gen_mut g67
        have h71 : H68 p1 = some (.lst (((found_18) ++ [((((((((state_20 * 48271) + 11) % 2147483647) * 69621) + 7) % 2147483647) / 13) % x32)] : (List Int)).map V.int)) := snoc_map h70
        have S72 := S28.mut1 x69 (.head _) h71
        have hw := cW_bnd hw
        have hw := cW_ok hw
        have hw := hK37 _ hw
        exact ⟨((found_18) ++ [((((((((state_20 * 48271) + 11) % 2147483647) * 69621) + 7) % 2147483647) / 13) % x32)]), (rest_19), (((((((state_20 * 48271) + 11) % 2147483647) * 69621) + 7) % 2147483647)), _, _, rfl, eG31, S72, h71, hw⟩
    · intro σ H74 hw
      obtain ⟨found_18, rest_19, state_20, u21, G77, rfl, eG78, S75, h76, hw⟩ := hw
      have hw := hK17 _ (cW_forS0 (by rw [List.length_map]) hw)
      have hw : cW (F__law_draws_r1  (found_18) (rest_19) (state_20)) _ EE := hw
      unfold F__law_draws_r1 at hw
      refine ⟨_, rfl, ?_⟩
      have hw := cW_ok hw
      exact hK0 _ hw _ _ fr8 S75.b0 h76

abbrev N_MotionGrid___init__ : List Str := ["self", "columns", "rows", "_"]
theorem sc_MotionGrid___init__ : FnScope N_MotionGrid___init__ ["self", "columns", "rows"] (defScope s_MotionGrid___init__) := ⟨rfl, rfl, rfl, by decide +kernel, rfl, by decide +kernel, by decide +kernel⟩
theorem ok_MotionGrid___init__ (D : InitX K mg AD.c_MotionGrid "MotionGrid" "MotionGrid.__init__" s_MotionGrid___init__ ["self", "columns", "rows"] pats_MotionGrid___init__) (T : Txt w K mg AD)  : MakX P w K mg base 1 "MotionGrid" AD.c_MotionGrid (sp_MotionGrid___init__ K AD) pats_MotionGrid___init__ := by
  refine D.ok sc_MotionGrid___init__ (fun vs H Q E h => ?_) (fun f cdv A_ outer s H vs Q E hr h => ?_)
  · obtain ⟨G, p_self, dx_self, columns', rows', rfl, _⟩ := h
    rfl
  · obtain ⟨G, p_self, dx_self, columns', rows', rfl, sG, gM, h_self, hw⟩ := h
    refine ⟨_, (pss_cons (ps_fld (pv 0) (pe_op op_mul pe_int (pv 1)) rfl)
      (pss_cons (ps_fld (pv 0) (pe_op op_mul pe_int (pv 2)) rfl)
      (pss_one (ps_fld (pv 0) (pe_lc (own := [("_", 3)]) (g := gName 3) (by rfl) sc_MotionGrid___init__.nd (pi_range1 rfl T.b_range (pa_cons (fldK (K := K) (pv 0)) pa_nil)) (blkOk_by (own := [("_", 3)]) (N := N_MotionGrid___init__) (sc := defScope s_MotionGrid___init__) (by decide +kernel)) (fun _ _ _ _ _ => (pg_name (i := 3) sc_MotionGrid___init__.nd rfl (Or.inl rfl))) (fun _ _ _ _ _ => pts_nil) (fun _ _ _ _ _ => (pe_op op_rep (pe_lst (pa_cons pe_non pa_nil)) (fldK (K := K) (pv 0))))) rfl)))), ?_⟩
    obtain ⟨KK, EE, hK0, hE, hw⟩ := cW_gen hw
    have S0 := Sep.startM (M := [p_self]) sG (all_cons (some_ne h_self) all_nil) gM
    unfold F_MotionGrid___init__ at hw
    have hw := cW_bnd hw
    refine ⟨_, rfl, _, _, rfl, rfl, (.inl ⟨by decide, by decide⟩), _, rfl, _, _, _, _, rfl, h_self, T.cl_MotionGrid, T.n_MotionGrid__width, (by show 0 < 1000; decide), ?_⟩
    generalize g83 : upd H p_self _ = H84
    obtain ⟨x85, h86⟩ := gen_mut g83
    have h87 : H84 p_self = some (.ins AD.c_MotionGrid dx_self [("_width", V.int ((2 * columns')))]) := h86
    have S88 := S0.mut1 x85 (.head _) h87
    have hw := cW_bnd hw
    refine ⟨_, rfl, _, _, rfl, rfl, (.inl ⟨by decide, by decide⟩), _, rfl, _, _, _, _, rfl, h87, T.cl_MotionGrid, T.n_MotionGrid__height, (by show 1 < 1000; decide), ?_⟩
    generalize g90 : upd H84 p_self _ = H91
    obtain ⟨x92, h93⟩ := gen_mut g90
    have h94 : H91 p_self = some (.ins AD.c_MotionGrid dx_self [("_width", V.int ((2 * columns'))), ("_height", V.int ((2 * rows')))]) := h93
    have S95 := S88.mut1 x92 (.head _) h94
    obtain ⟨g96, hw⟩ := cW_grd hw
    obtain ⟨K100, hK101, hw⟩ := cW_push hw
    refine ⟨_, rfl, _, _, _, _, _, rfl, h94, T.cl_MotionGrid, T.n_MotionGrid__height, rfl, _, rfl, g96.1, g96.2, fun D102 n103 => lc_range (lo := 0) (n := Int.toNat ((2 * rows'))) (fun i H' => ∃ (G' : Hp) (acc105 : (List (List PyData))) (vs106 : List V) (L104 : List Addr), Same G G' ∧ Sep [p_self] H G G' H' (D102 :: (L104 ++ (p_self :: []))) ∧ H' p_self = some (.ins AD.c_MotionGrid dx_self [("_width", V.int ((2 * columns'))), ("_height", V.int ((2 * rows')))]) ∧ H' D102 = some (.lst vs106) ∧ OwAll G' H' L104 vs106 ((acc105 : (List (List PyData))).map (oL (oF encD))) ∧ (∀ b ∈ L104, H91 b = none) ∧ (∀ b ∈ L104, b ≠ D102) ∧ Same H91 H' ∧ cW (mapA (List.drop i (rng (0) (Int.toNat ((2 * rows'))))) acc105 (fun x => noEr (F_MotionGrid___init___c1 ((2 * columns')) ((2 * rows')) x))) K100 EE) ?_ ?_ ?_⟩
    · generalize g107 : upd H91 D102 _ = H108
      obtain ⟨e109, h110⟩ := gen_new n103 g107
      have fr111 := S95.free n103
      have S112 := S95.new n103 e109 h110 fr111
      have h113 := (e109 _ _ h94)
      exact ⟨_, [], [], [], Same.refl _, (S112.sub (all_cons (.head _) (all_app (L := []) all_nil (all_cons (.tail _ (.head _)) all_nil)))), h113, h110, OwAll.nil, all_nil, all_nil, e109, hw⟩
    · intro i H114 hi hw
      obtain ⟨G117, acc119, vs120, L122, eG118, S115, h126, h116, d121, nb123, nd124, eo125, hw⟩ := hw
      obtain ⟨z127, hw⟩ := cW_mapA (rng_get hi) hw
      generalize (0 + (i : Int)) = x128 at hw ⊢
      have hw := cW_noEr hw
      have hw : cW (F_MotionGrid___init___c1 ((2 * columns')) ((2 * rows')) (x128)) _ (fun _ => False) := hw
      unfold F_MotionGrid___init___c1 at hw
      refine ⟨rfl, ?_⟩
      refine tyes_go ?_
      have r130 : Rp G117 (V.non) (encD (encN (()))) := .non
      refine ⟨(by show 1 ≤ sizeLine; decide), fun p131 n132 => ?_⟩
      generalize g133 : upd H114 p131 _ = H134
      obtain ⟨e135, h136⟩ := gen_new n132 g133
      have h137 : H134 p131 = some (.lst ([(V.non)])) := h136
      have fr138 := S115.free n132
      have S139 := S115.new n132 e135 h137 fr138
      have d140 : RpAll G117 ([(V.non)]) (([(encN (()))] : (List PyData)).map encD) := (RpAll.cons r130 RpAll.nil)
      have h141 := (e135 _ _ h126)
      obtain ⟨g142, hw⟩ := cW_grd hw
      refine ⟨_, rfl, _, _, _, _, _, rfl, h141, T.cl_MotionGrid, T.n_MotionGrid__width, rfl, _, _, _, rfl, rfl, h137, g142.1, g142.2.1, (rep_len d140 g142.2.2), fun p143 n144 => ?_⟩
      generalize g145 : upd H134 p143 _ = H146
      obtain ⟨e147, h148⟩ := gen_new n144 g145
      have h149 : H146 p143 = some (.lst ((List.replicate (Int.toNat ((2 * columns'))) ([(V.non)])).flatten)) := h148
      have fr150 := S139.free n144
      have S151 := S139.new n144 e147 h149 fr150
      have d152 : RpAll G117 ((List.replicate (Int.toNat ((2 * columns'))) ([(V.non)])).flatten) ((repL ([(encN (()))]) ((2 * columns')) : (List PyData)).map encD) := rep_all ((2 * columns')) d140
      have w153 : OwAll G117 H146 L122 (vs120) ((acc119 : (List (List PyData))).map (oL (oF encD))) := (OwAll.mono (Same.refl _) (keeps_same e147) (OwAll.mono (Same.refl _) (keeps_same e135) d121))
      have h154 := (e147 _ _ (e135 _ _ h116))
      refine ⟨_, h154, (app_len (OwAll.rpA w153 (encO_L encO_F) S151.sG) z127), ?_⟩
      generalize g155 : upd H146 D102 _ = H156
      obtain ⟨x157, h158⟩ := gen_mut g155
      have S159 := S151.mut1 x157 (.tail _ (.tail _ (.head _))) h158
      have hw := cW_ok hw
      have h160 := (x157 _ _ (e147 _ _ h141) (ne_of_none h94 n103))
      exact ⟨_, (acc119 ++ [repL ([(encN (()))]) ((2 * columns'))]), _, (L122 ++ (p143 :: ([] : List Addr))), eG118, (S159.sub (all_cons (.tail _ (.tail _ (.head _))) (all_app (all_app ((fun b hb => (.tail _ (.tail _ (.tail _ (List.mem_append_left _ hb))))) : ∀ b ∈ L122, b ∈ (p143 :: (p131 :: (D102 :: (L122 ++ (p_self :: [])))))) (all_cons (.head _) all_nil)) (all_cons (.tail _ (.tail _ (.tail _ (List.mem_append_right _ (.head _))))) all_nil)))), h160, h158, (OwAll.mono (Same.refl _) (keeps_mut x157 ((all_app nd124 (all_cons (ne_of_none (e135 _ _ h116) n144).symm all_nil)) : ∀ b ∈ (L122 ++ (p143 :: ([] : List Addr))), b ≠ D102)) (OwAll.snocM w153 (Ow.list h149 (OwAll.frzs d152) all_nil) ((fun b hb => (nm_cons ((there_ne (fun b_ hb_ => (S139.ow b_ (((fun b hb => (.tail _ (.tail _ (List.mem_append_left _ hb)))) : ∀ b ∈ L122, b ∈ (p131 :: (D102 :: (L122 ++ (p_self :: []))))) b_ hb_)).2.1) n144) b hb) nm_nil)) : ∀ b ∈ L122, b ∉ (p143 :: ([] : List Addr))))), ((all_app nb123 (all_cons (none_of_same (Same.trans eo125 e135) n144) all_nil)) : ∀ b ∈ (L122 ++ (p143 :: ([] : List Addr))), H91 b = none), ((all_app nd124 (all_cons (ne_of_none (e135 _ _ h116) n144).symm all_nil)) : ∀ b ∈ (L122 ++ (p143 :: ([] : List Addr))), b ≠ D102), (same_mut (Same.trans (Same.trans eo125 e135) e147) x157 n103), hw⟩
    intro H161 hw
    obtain ⟨G164, acc166, vs167, L169, eG165, S162, h173, h163, d168, nb170, nd171, eo172, hw⟩ := hw
    have hw := hK101 _ (cW_mapA0 (rng_len _ _).symm hw)
    have fr174 := S95.free n103
    refine ⟨_, rfl, _, _, _, _, rfl, h173, T.cl_MotionGrid, T.n_MotionGrid__lines, (by show 2 < 1000; decide), ?_⟩
    generalize g175 : upd H161 p_self _ = H176
    obtain ⟨x177, h178⟩ := gen_mut g175
    have h179 : H176 p_self = some (.ins AD.c_MotionGrid dx_self [("_width", V.int ((2 * columns'))), ("_height", V.int ((2 * rows'))), ("_lines", V.ref D102)]) := h178
    have S180 := S162.mut1 x177 (.tail _ (List.mem_append_right _ (.head _))) h179
    have h181 := (x177 _ _ h163 (ne_of_none h94 n103).symm)
    have w182 : OwAll G164 H176 L169 (vs167) ((acc166 : (List (List PyData))).map (oL (oF encD))) := (OwAll.mono (Same.refl _) (keeps_mut x177 ((new_ne2 nb170 (S95.ow _ (.head _)).2.1) : ∀ b ∈ L169, b ≠ p_self)) d168)
    have hw := cW_ok hw
    exact hK0 _ hw _ _ _ _ L169 (sameX_of S180.base) S180.g0 S180.sG S180.gn fr174 (S180.ow _ (.head _)).1 ((fun b hb => Sep.h0 S180 (((fun b hb => (.tail _ (List.mem_append_left _ hb))) : ∀ b ∈ L169, b ∈ (D102 :: (L169 ++ (p_self :: [])))) b hb) ((fun b hb => (nm_cons ((new_ne2 nb170 (S95.ow _ (.head _)).2.1) b hb) nm_nil)) b hb)) : ∀ b ∈ L169, H b = none) ((fun b hb => (S180.ow b (((fun b hb => (.tail _ (List.mem_append_left _ hb))) : ∀ b ∈ L169, b ∈ (D102 :: (L169 ++ (p_self :: [])))) b hb)).1) : ∀ b ∈ L169, G164 b = none) (nd171 : ∀ b ∈ L169, b ≠ D102) h179 h181 w182

abbrev N__law_cell : List Str := ["script", "k"]
theorem sc__law_cell : FnScope N__law_cell ["script", "k"] (defScope s__law_cell) := ⟨rfl, rfl, rfl, by decide +kernel, rfl, by decide +kernel, by decide +kernel⟩
theorem ok__law_cell (D : DefX K mg "_law_cell" s__law_cell ["script", "k"] pats__law_cell) (T : Txt w K mg AD)  : CalX P w K mg base 1 "_law_cell" (sp__law_cell K AD) pats__law_cell := by
  refine D.ok sc__law_cell (fun vs H Q E h => ?_) (fun f cdv A_ outer s H vs Q E hr h => ?_)
  · obtain ⟨G, a_script, script', k', rfl, _⟩ := h
    rfl
  · obtain ⟨G, a_script, script', k', rfl, sG, q_script, hw⟩ := h
    refine ⟨_, (pss_cons (ps_if (pt_cmp (pc_lt (pv 1) (pe_callB (call_lenLiK (K := K)) (by rfl) T.b_len (by decide +kernel) (pa_cons (pv 0) pa_nil)))) (pss_one (ps_ret (pe_callTy call_int1 (by rfl) T.b_int (by decide +kernel) (pa_cons (pe_ix (ix_listK (K := K)) (pv 0) (pv 1) (fun _ _ => rfl)) pa_nil)))) pss_nil)
      (pss_one (ps_ret pe_int))), ?_⟩
    obtain ⟨KK, EE, hK0, hE, hw⟩ := cW_gen hw
    have S0 := Sep.startG sG
    unfold F__law_cell at hw
    refine ⟨_, rfl, _, rfl, _, _, rfl, (S0.b0.seq q_script), _, _, rfl, rfl, _, rfl, ?_⟩
    refine iteD (fun c183 => ?_) (fun c183 => ?_)
    · have hw := cW_pos c183 hw
      obtain ⟨g184, hw⟩ := cW_grd hw
      refine ⟨_, rfl, _, rfl, _, _, _, _, rfl, rfl, (S0.b0.seq q_script), (atI_map g184), .inl ⟨_, rfl, ?_⟩⟩
      have hw := cW_ok hw
      exact hK0 _ hw
    · have hw := cW_neg c183 hw
      have hw := cW_ok hw
      exact hK0 _ hw

abbrev N__law_vector : List Str := ["grid", "x", "y", "second", "vector"]
theorem sc__law_vector : FnScope N__law_vector ["grid", "x", "y", "second"] (defScope s__law_vector) := ⟨rfl, rfl, rfl, by decide +kernel, rfl, by decide +kernel, by decide +kernel⟩
theorem ok__law_vector (D : DefX K mg "_law_vector" s__law_vector ["grid", "x", "y", "second"] pats__law_vector) (T : Txt w K mg AD)  : CalX P w K mg base 1 "_law_vector" (sp__law_vector K AD) pats__law_vector := by
  refine D.ok sc__law_vector (fun vs H Q E h => ?_) (fun f cdv A_ outer s H vs Q E hr h => ?_)
  · obtain ⟨G, a_grid, vs_grid, L_grid, grid', x', y', second', rfl, _⟩ := h
    rfl
  · obtain ⟨G, a_grid, vs_grid, L_grid, grid', x', y', second', rfl, sG, q_grid, w_grid, hw⟩ := h
    refine ⟨_, (pss_cons (ps_if (PW.pt (pw_or (pt_cmp (pc_lt (pv 1) pe_int)) (pw_or (pt_cmp (pc_lt (pv 2) pe_int)) (pw_or (pt_cmp (pc_ge (pv 2) (pe_callB (call_lenLK (K := K)) (by rfl) T.b_len (by decide +kernel) (pa_cons (pv 0) pa_nil)))) (pw_or (pt_cmp (pc_ge (pv 1) (pe_callB (call_lenLK (K := K)) (by rfl) T.b_len (by decide +kernel) (pa_cons (pe_ix (ix_listK (K := K)) (pv 0) pe_int (fun _ _ => rfl)) pa_nil)))) (pw_or1 (pt_cmpR op_isND (pe_ix (ix_listK (K := K)) (pe_ix (ix_listK (K := K)) (pv 0) (pv 2) (fun _ _ => rfl)) (pv 1) (fun _ _ => rfl)) pe_non (nomark _)))))))) (pss_one (ps_ret (pe_tup (pa_cons pe_int (pa_cons pe_int pa_nil))))) pss_nil)
      (pss_cons (ps_set (i := 4) sc__law_vector.nd rfl (Or.inl rfl) (pe_ix (ix_tupK (K := K)) (pe_ix (ix_listK (K := K)) (pe_ix (ix_listK (K := K)) (pv 0) (pv 2) (fun _ _ => rfl)) (pv 1) (fun _ _ => rfl)) (pe_op op_add pe_int (pv 3)) (fun _ _ => rfl)))
      (pss_cons (ps_if (pt_cmpR op_isND (pv 4) pe_non (nomark _)) (pss_one (ps_ret (pe_tup (pa_cons pe_int (pa_cons pe_int pa_nil))))) pss_nil)
      (pss_one (ps_ret (pv 4)))))), ?_⟩
    obtain ⟨KK, EE, hK0, hE, hw⟩ := cW_gen hw
    have S0 := Sep.startG sG
    unfold F__law_vector at hw
    refine ⟨_, rfl, _, _, rfl, rfl, _, rfl, ?_⟩
    refine iteD (fun c185 => ?_) (fun c185 => ?_)
    · have hw := cW_pos c185 hw
      refine iteT ?_
      refine ⟨(by show 2 ≤ sizeLine; decide), fun p186 n187 => ?_⟩
      generalize g188 : upd H p186 _ = H189
      obtain ⟨e190, h191⟩ := gen_new n187 g188
      have h192 : H189 p186 = some (.tup [V.int (0), V.int (0)]) := h191
      have fr193 := S0.free n187
      obtain ⟨G195, eG196, hg197, S194⟩ := S0.grow n187 e190 h192 fr193
      have hw := cW_ok hw
      exact hK0 _ hw _ _ _ S194.b0 S194.g0 S194.sG S194.gn (rp_mk2 hg197 (.int _) (.int _))
    · have hw := cW_neg c185 hw
      refine ⟨_, rfl, _, _, rfl, rfl, _, rfl, ?_⟩
      refine iteD (fun c198 => ?_) (fun c198 => ?_)
      · have hw := cW_pos c198 hw
        refine iteT ?_
        refine ⟨(by show 2 ≤ sizeLine; decide), fun p199 n200 => ?_⟩
        generalize g201 : upd H p199 _ = H202
        obtain ⟨e203, h204⟩ := gen_new n200 g201
        have h205 : H202 p199 = some (.tup [V.int (0), V.int (0)]) := h204
        have fr206 := S0.free n200
        obtain ⟨G208, eG209, hg210, S207⟩ := S0.grow n200 e203 h205 fr206
        have hw := cW_ok hw
        exact hK0 _ hw _ _ _ S207.b0 S207.g0 S207.sG S207.gn (rp_mk2 hg210 (.int _) (.int _))
      · have hw := cW_neg c198 hw
        have w211 : OwAll G H L_grid (vs_grid) ((grid' : (List (List PyData))).map (oL (oF encD))) := OwAll.mono (Same.refl _) (keeps_same S0.bM) w_grid
        refine ⟨_, rfl, _, rfl, _, _, _, rfl, (SqL.of (S0.bM _ _ q_grid)), (by rw [(OwAll.rpA w211 (encO_L encO_F) S0.sG).len, List.length_map]), _, _, rfl, rfl, _, rfl, ?_⟩
        refine iteD (fun c212 => ?_) (fun c212 => ?_)
        · have hw := cW_pos c212 hw
          refine iteT ?_
          refine ⟨(by show 2 ≤ sizeLine; decide), fun p213 n214 => ?_⟩
          generalize g215 : upd H p213 _ = H216
          obtain ⟨e217, h218⟩ := gen_new n214 g215
          have h219 : H216 p213 = some (.tup [V.int (0), V.int (0)]) := h218
          have fr220 := S0.free n214
          obtain ⟨G222, eG223, hg224, S221⟩ := S0.grow n214 e217 h219 fr220
          have hw := cW_ok hw
          exact hK0 _ hw _ _ _ S221.b0 S221.g0 S221.sG S221.gn (rp_mk2 hg224 (.int _) (.int _))
        · have hw := cW_neg c212 hw
          obtain ⟨g225, hw⟩ := cW_grd hw
          have w226 : OwAll G H L_grid (vs_grid) ((grid' : (List (List PyData))).map (oL (oF encD))) := OwAll.mono (Same.refl _) (keeps_same S0.bM) w_grid
          obtain ⟨v227, L228, a229, w230, hs231, up232, gr233⟩ := OwAll.partM (k := 0) w226 g225
          obtain ⟨b234, vs235, L236, rfl, rfl, h237, w238, nb239⟩ := Ow.toList w230
          refine ⟨_, rfl, _, rfl, _, _, _, _, rfl, rfl, (SqL.of (S0.bM _ _ q_grid)), a229, _, _, _, rfl, (SqL.of h237), (by rw [(OwAll.rpA w238 encO_F S0.sG).len, List.length_map]), _, _, rfl, rfl, _, rfl, ?_⟩
          refine iteD (fun c240 => ?_) (fun c240 => ?_)
          · have hw := cW_pos c240 hw
            refine iteT ?_
            refine ⟨(by show 2 ≤ sizeLine; decide), fun p241 n242 => ?_⟩
            generalize g243 : upd H p241 _ = H244
            obtain ⟨e245, h246⟩ := gen_new n242 g243
            have h247 : H244 p241 = some (.tup [V.int (0), V.int (0)]) := h246
            have fr248 := S0.free n242
            obtain ⟨G250, eG251, hg252, S249⟩ := S0.grow n242 e245 h247 fr248
            have hw := cW_ok hw
            exact hK0 _ hw _ _ _ S249.b0 S249.g0 S249.sG S249.gn (rp_mk2 hg252 (.int _) (.int _))
          · have hw := cW_neg c240 hw
            obtain ⟨g253, hw⟩ := cW_grd hw
            have w254 : OwAll G H L_grid (vs_grid) ((grid' : (List (List PyData))).map (oL (oF encD))) := OwAll.mono (Same.refl _) (keeps_same S0.bM) w_grid
            obtain ⟨v255, L256, a257, w258, hs259, up260, gr261⟩ := OwAll.partM (k := y') w254 g253
            obtain ⟨b262, vs263, L264, rfl, rfl, h265, w266, nb267⟩ := Ow.toList w258
            obtain ⟨g268, hw⟩ := cW_grd hw
            obtain ⟨v269, L270, a271, w272, hs273, up274, gr275⟩ := OwAll.partM (k := x') w266 g268
            obtain ⟨z277, r276⟩ := Ow.toFrz w272
            refine ⟨_, rfl, _, rfl, _, _, _, _, rfl, rfl, (SqL.of (S0.bM _ _ q_grid)), a257, _, rfl, _, _, _, _, rfl, rfl, (SqL.of h265), a271, (itD ((itD (grid') (y'))) (x')), rfl, (Rp.mono S0.sG r276), _, rfl, ?_⟩
            refine iteB (fun c278 => ?_) (fun c278 => ?_)
            · have hw := cW_pos c278 hw
              refine ⟨(by show 2 ≤ sizeLine; decide), fun p279 n280 => ?_⟩
              generalize g281 : upd H p279 _ = H282
              obtain ⟨e283, h284⟩ := gen_new n280 g281
              have h285 : H282 p279 = some (.tup [V.int (0), V.int (0)]) := h284
              have fr286 := S0.free n280
              obtain ⟨G288, eG289, hg290, S287⟩ := S0.grow n280 e283 h285 fr286
              have hw := cW_ok hw
              exact hK0 _ hw _ _ _ S287.b0 S287.g0 S287.sG S287.gn (rp_mk2 hg290 (.int _) (.int _))
            · have hw := cW_negB c278 hw
              obtain ⟨g291, hw⟩ := cW_grd hw
              have w292 : OwAll G H L_grid (vs_grid) ((grid' : (List (List PyData))).map (oL (oF encD))) := OwAll.mono (Same.refl _) (keeps_same S0.bM) w_grid
              obtain ⟨v293, L294, a295, w296, hs297, up298, gr299⟩ := OwAll.partM (k := y') w292 g291
              obtain ⟨b300, vs301, L302, rfl, rfl, h303, w304, nb305⟩ := Ow.toList w296
              obtain ⟨g306, hw⟩ := cW_grd hw
              obtain ⟨v307, L308, a309, w310, hs311, up312, gr313⟩ := OwAll.partM (k := x') w304 g306
              obtain ⟨z315, r314⟩ := Ow.toFrz w310
              obtain ⟨g316, hw⟩ := cW_grd hw
              obtain ⟨a317, vs318, v319, e320, h321, e322, r323⟩ := rp_dgetI g316 r314
              refine ⟨_, rfl, _, rfl, _, _, _, _, rfl, rfl, (SqL.of (S0.bM _ _ q_grid)), a295, _, rfl, _, _, _, _, rfl, rfl, (SqL.of h303), a309, _, rfl, _, _, rfl, rfl, _, _, _, _, e320, rfl, (SqT.of (S0.sG _ _ h321)), e322, _, rfl, (dGet ((itD ((itD (grid') (y'))) (x'))) (Int.toNat ((2 + second')))), rfl, (Rp.mono S0.sG r323), _, rfl, ?_⟩
              refine iteB (fun c324 => ?_) (fun c324 => ?_)
              · have hw := cW_pos c324 hw
                refine ⟨(by show 2 ≤ sizeLine; decide), fun p325 n326 => ?_⟩
                generalize g327 : upd H p325 _ = H328
                obtain ⟨e329, h330⟩ := gen_new n326 g327
                have h331 : H328 p325 = some (.tup [V.int (0), V.int (0)]) := h330
                have fr332 := S0.free n326
                obtain ⟨G334, eG335, hg336, S333⟩ := S0.grow n326 e329 h331 fr332
                have hw := cW_ok hw
                exact hK0 _ hw _ _ _ S333.b0 S333.g0 S333.sG S333.gn (rp_mk2 hg336 (.int _) (.int _))
              · have hw := cW_negB c324 hw
                obtain ⟨g337, hw⟩ := cW_grd hw
                have r338 : Rp G v319 ((encT2 PyData.int PyData.int) (((cT2 cI cI)).dec ((dGet ((itD ((itD (grid') (y'))) (x'))) (Int.toNat ((2 + second'))))))) := rp_dcast (cT2 cI cI) g337 r323
                obtain ⟨a339, v341, v342, rfl, h340, r343, r344⟩ := rp_tup2 r338
                obtain rfl := rp_int r343
                obtain rfl := rp_int r344
                refine ⟨_, rfl, ?_⟩
                have hw := cW_ok hw
                exact hK0 _ hw _ _ _ S0.b0 S0.g0 S0.sG S0.gn (rp_mk2 h340 (.int _) (.int _))

abbrev N__law_median : List Str := ["values"]
theorem sc__law_median : FnScope N__law_median ["values"] (defScope s__law_median) := ⟨rfl, rfl, rfl, by decide +kernel, rfl, by decide +kernel, by decide +kernel⟩
theorem ok__law_median (D : DefX K mg "_law_median" s__law_median ["values"] pats__law_median) (T : Txt w K mg AD)  : CalX P w K mg base 1 "_law_median" (sp__law_median K AD) pats__law_median := by
  refine D.ok sc__law_median (fun vs H Q E h => ?_) (fun f cdv A_ outer s H vs Q E hr h => ?_)
  · obtain ⟨G, a_values, values', rfl, _⟩ := h
    rfl
  · obtain ⟨G, a_values, values', rfl, sG, q_values, hw⟩ := h
    refine ⟨_, (pss_one (ps_ret (pe_ix (ix_listK (K := K)) (pe_callB (cr_sortL (K := K)) (by rfl) T.b_sorted (by decide +kernel) (pa_cons (pv 0) pa_nil)) pe_int (fun _ _ => rfl)))), ?_⟩
    obtain ⟨KK, EE, hK0, hE, hw⟩ := cW_gen hw
    have S0 := Sep.startG sG
    unfold F__law_median at hw
    refine ⟨_, rfl, _, _, rfl, (SqL.of (S0.bM _ _ q_values)), fun p345 n346 => ?_⟩
    generalize g347 : upd H p345 _ = H348
    obtain ⟨e349, h350⟩ := gen_new n346 g347
    have h351 : H348 p345 = some (.lst (((sortL (values')) : (List Int)).map V.int)) := h350
    have fr352 := S0.free n346
    have S353 := S0.new n346 e349 h351 fr352
    obtain ⟨g354, hw⟩ := cW_grd hw
    refine ⟨_, _, _, _, rfl, rfl, (SqL.of h351), (atI_map g354), ?_⟩
    have hw := cW_ok hw
    exact hK0 _ hw _ S353.b0

abbrev N__law_predicted : List Str := ["grid", "x", "y", "second", "near", "v"]
theorem sc__law_predicted : FnScope N__law_predicted ["grid", "x", "y", "second"] (defScope s__law_predicted) := ⟨rfl, rfl, rfl, by decide +kernel, rfl, by decide +kernel, by decide +kernel⟩
theorem ok__law_predicted (D : DefX K mg "_law_predicted" s__law_predicted ["grid", "x", "y", "second"] pats__law_predicted) (T : Txt w K mg AD) (c__law_vector : CalX P w K mg base 1 "_law_vector" (sp__law_vector K AD) pats__law_vector) (c__law_median : CalX P w K mg base 1 "_law_median" (sp__law_median K AD) pats__law_median) : CalX P w K mg base 2 "_law_predicted" (sp__law_predicted K AD) pats__law_predicted := by
  refine D.ok sc__law_predicted (fun vs H Q E h => ?_) (fun f cdv A_ outer s H vs Q E hr h => ?_)
  · obtain ⟨G, a_grid, vs_grid, L_grid, grid', x', y', second', rfl, _⟩ := h
    rfl
  · obtain ⟨G, a_grid, vs_grid, L_grid, grid', x', y', second', rfl, sG, q_grid, w_grid, hw⟩ := h
    refine ⟨_, (pss_cons (ps_set (i := 4) sc__law_predicted.nd rfl (Or.inl rfl) (pe_lst (pa_cons (vx_callX c__law_vector pat__law_vector_0 (.head _) hr (by decide) (takes_of rfl rfl rfl rfl) rfl (pa_cons (pv 0) (pa_cons (pe_op op_sub (pv 1) pe_int) (pa_cons (pv 2) (pa_cons (pv 3) pa_nil)))) pk_nil) (pa_cons (vx_callX c__law_vector pat__law_vector_0 (.head _) hr (by decide) (takes_of rfl rfl rfl rfl) rfl (pa_cons (pv 0) (pa_cons (pv 1) (pa_cons (pe_op op_sub (pv 2) pe_int) (pa_cons (pv 3) pa_nil)))) pk_nil) (pa_cons (vx_callX c__law_vector pat__law_vector_0 (.head _) hr (by decide) (takes_of rfl rfl rfl rfl) rfl (pa_cons (pv 0) (pa_cons (pe_op op_sub (pv 1) pe_int) (pa_cons (pe_op op_sub (pv 2) pe_int) (pa_cons (pv 3) pa_nil)))) pk_nil) pa_nil)))))
      (pss_one (ps_ret (pe_tup (pa_cons (vx_callX c__law_median pat__law_median_0 (.head _) hr (by decide) (takes_of rfl rfl rfl rfl) rfl (pa_cons (pe_lc (own := [("v", 5)]) (g := gName 5) (by rfl) sc__law_predicted.nd (pi_listK (K := K) (pv 4)) (blkOk_by (own := [("v", 5)]) (N := N__law_predicted) (sc := defScope s__law_predicted) (by decide +kernel)) (fun _ _ _ _ _ => (pg_name (i := 5) sc__law_predicted.nd rfl (Or.inl rfl))) (fun _ _ _ _ _ => pts_nil) (fun _ _ _ _ _ => (pe_ix (ix_tupK (K := K)) (pv 5) pe_int (fun _ _ => rfl)))) pa_nil) pk_nil) (pa_cons (vx_callX c__law_median pat__law_median_0 (.head _) hr (by decide) (takes_of rfl rfl rfl rfl) rfl (pa_cons (pe_lc (own := [("v", 5)]) (g := gName 5) (by rfl) sc__law_predicted.nd (pi_listK (K := K) (pv 4)) (blkOk_by (own := [("v", 5)]) (N := N__law_predicted) (sc := defScope s__law_predicted) (by decide +kernel)) (fun _ _ _ _ _ => (pg_name (i := 5) sc__law_predicted.nd rfl (Or.inl rfl))) (fun _ _ _ _ _ => pts_nil) (fun _ _ _ _ _ => (pe_ix (ix_tupK (K := K)) (pv 5) pe_int (fun _ _ => rfl)))) pa_nil) pk_nil) pa_nil)))))), ?_⟩
    obtain ⟨KK, EE, hK0, hE, hw⟩ := cW_gen hw
    have S0 := Sep.startG sG
    unfold F__law_predicted at hw
    refine ⟨_, rfl, _, rfl, _, _, rfl, rfl, _, rfl, _, rfl, rfl, rfl, G, _, _, L_grid, grid', _, _, _, rfl, S0.sG, (hide_nil (S0.bM _ _ q_grid)), (OwAll.mono (Same.refl _) (keeps_same (Sep.bhide S0 all_nil)) w_grid), cW_call hw (fun v355 hw v358 H356 G359 e357 eG360 sG361 hn362 r363 => ?_) (fun e he H2 e2 => hE e he H2 (Same.trans S0.b0 e2))⟩
    have S364 := S0.step e357 eG360 sG361 hn362
    obtain ⟨a365, v367, v368, rfl, h366, r369, r370⟩ := rp_tup2 r363
    obtain rfl := rp_int r369
    obtain rfl := rp_int r370
    refine ⟨_, rfl, _, rfl, _, rfl, _, _, rfl, rfl, _, rfl, rfl, rfl, G359, _, _, L_grid, grid', _, _, _, rfl, S364.sG, (hide_nil (S364.bM _ _ q_grid)), (OwAll.mono eG360 (keeps_same (Sep.bhide S364 all_nil)) w_grid), cW_call hw (fun v371 hw v374 H372 G375 e373 eG376 sG377 hn378 r379 => ?_) (fun e he H2 e2 => hE e he H2 (Same.trans S364.b0 e2))⟩
    have S380 := S364.step e373 eG376 sG377 hn378
    obtain ⟨a381, v383, v384, rfl, h382, r385, r386⟩ := rp_tup2 r379
    obtain rfl := rp_int r385
    obtain rfl := rp_int r386
    refine ⟨_, rfl, _, rfl, _, _, rfl, rfl, _, rfl, _, _, rfl, rfl, _, rfl, rfl, rfl, G375, _, _, L_grid, grid', _, _, _, rfl, S380.sG, (hide_nil (S380.bM _ _ q_grid)), (OwAll.mono (Same.trans eG360 eG376) (keeps_same (Sep.bhide S380 all_nil)) w_grid), cW_call hw (fun v387 hw v390 H388 G391 e389 eG392 sG393 hn394 r395 => ?_) (fun e he H2 e2 => hE e he H2 (Same.trans S380.b0 e2))⟩
    have S396 := S380.step e389 eG392 sG393 hn394
    obtain ⟨a397, v399, v400, rfl, h398, r401, r402⟩ := rp_tup2 r395
    obtain rfl := rp_int r401
    obtain rfl := rp_int r402
    refine ⟨(by show 3 ≤ sizeLine; decide), fun p403 n404 => ?_⟩
    generalize g405 : upd H388 p403 _ = H406
    obtain ⟨e407, h408⟩ := gen_new n404 g405
    have h409 : H406 p403 = some (.lst ([V.ref a365, V.ref a381, V.ref a397])) := h408
    have fr410 := S396.free n404
    have S411 := S396.new n404 e407 h409 fr410
    have d412 : RpAll G391 ([V.ref a365, V.ref a381, V.ref a397]) (([v355, v371, v387] : (List (Int × Int))).map (encT2 PyData.int PyData.int)) := (RpAll.cons (rp_mk2 (eG392 _ _ (eG376 _ _ h366)) (.int _) (.int _)) (RpAll.cons (rp_mk2 (eG392 _ _ h382) (.int _) (.int _)) (RpAll.cons (rp_mk2 h398 (.int _) (.int _)) RpAll.nil)))
    obtain ⟨K414, hK415, hw⟩ := cW_push hw
    refine ⟨_, rfl, _, rfl, ⟨_, (SqL.of h409)⟩, fun D416 n417 => lc_list (K := K) (a := p403) (xs := [V.ref a365, V.ref a381, V.ref a397]) (fun i H' => ∃ (G' : Hp) (acc419 : (List Int)), Same G391 G' ∧ Sep [] H G G' H' [D416, p403] ∧ H' p403 = some (.lst ([V.ref a365, V.ref a381, V.ref a397])) ∧ H' D416 = some (.lst ((acc419 : (List Int)).map V.int)) ∧ Same H406 H' ∧ cW (mapA (List.drop i ([v355, v371, v387])) acc419 (fun x => noEr (F__law_predicted_c1  x))) K414 EE) ?_ ?_ ?_ ?_⟩
    · generalize g421 : upd H406 D416 _ = H422
      obtain ⟨e423, h424⟩ := gen_new n417 g421
      have fr425 := S411.free n417
      have S426 := S411.new n417 e423 h424 fr425
      have h427 := (e423 _ _ h409)
      exact ⟨_, [], Same.refl _, S426, h427, h424, e423, hw⟩
    · intro i H428 _ hw
      obtain ⟨G431, acc433, eG432, S429, h440, h430, eo439, hw⟩ := hw
      exact (SqL.of h440)
    · intro i x H441 hj hw
      obtain ⟨G444, acc446, eG445, S442, h453, h443, eo452, hw⟩ := hw
      obtain ⟨x454, hx, r455⟩ := RpAll.get (RpAll.mono eG445 d412) hj
      obtain ⟨a456, v458, v459, rfl, h457, r460, r461⟩ := rp_tup2 r455
      obtain rfl := rp_int r460
      obtain rfl := rp_int r461
      obtain ⟨z462, hw⟩ := cW_mapA hx hw
      have hw := cW_noEr hw
      have hw : cW (F__law_predicted_c1  (x454)) _ (fun _ => False) := hw
      unfold F__law_predicted_c1 at hw
      refine ⟨rfl, ?_⟩
      refine tyes_go ?_
      refine ⟨_, rfl, _, _, _, _, rfl, rfl, (SqT.of (S442.sG _ _ h457)), rfl, _, h443, (app_lenM z462), ?_⟩
      generalize g464 : upd H441 D416 _ = H465
      obtain ⟨x466, h467⟩ := gen_mut g464
      have S468 := S442.mut1 x466 (.head _) h467
      have hw := cW_ok hw
      have h469 := (x466 _ _ h453 (ne_of_none h409 n417))
      exact ⟨_, (acc446 ++ [x454.1]), eG445, S468, h469, (snoc_map h467), (same_mut eo452 x466 n417), hw⟩
    intro H470 hw
    obtain ⟨G473, acc475, eG474, S471, h482, h472, eo481, hw⟩ := hw
    have hw := hK415 _ (cW_mapA0 (by rw [(RpAll.mono eG474 d412).len, List.length_map]) hw)
    have fr483 := S411.free n417
    refine ⟨rfl, rfl, G473, _, _, rfl, S471.sG, (hide_nil h472), cW_call hw (fun v484 hw H485 e486 => ?_) (fun e he H2 e2 => hE e he H2 (Same.trans S471.b0 e2))⟩
    have S487 := S471.same e486
    have h488 := (e486 _ _ h482)
    obtain ⟨K490, hK491, hw⟩ := cW_push hw
    refine ⟨_, rfl, _, rfl, ⟨_, (SqL.of h488)⟩, fun D492 n493 => lc_list (K := K) (a := p403) (xs := [V.ref a365, V.ref a381, V.ref a397]) (fun i H' => ∃ (G' : Hp) (acc495 : (List Int)), Same G473 G' ∧ Sep [] H G G' H' [D492, p403] ∧ H' p403 = some (.lst ([V.ref a365, V.ref a381, V.ref a397])) ∧ H' D492 = some (.lst ((acc495 : (List Int)).map V.int)) ∧ Same H485 H' ∧ cW (mapA (List.drop i ([v355, v371, v387])) acc495 (fun x => noEr (F__law_predicted_c2  x))) K490 EE) ?_ ?_ ?_ ?_⟩
    · generalize g497 : upd H485 D492 _ = H498
      obtain ⟨e499, h500⟩ := gen_new n493 g497
      have fr501 := S487.free n493
      have S502 := S487.new n493 e499 h500 fr501
      have h503 := (e499 _ _ h488)
      exact ⟨_, [], Same.refl _, (S502.sub (all_cons (.head _) (all_cons (.tail _ (.tail _ (.head _))) all_nil))), h503, h500, e499, hw⟩
    · intro i H504 _ hw
      obtain ⟨G507, acc509, eG508, S505, h516, h506, eo515, hw⟩ := hw
      exact (SqL.of h516)
    · intro i x H517 hj hw
      obtain ⟨G520, acc522, eG521, S518, h529, h519, eo528, hw⟩ := hw
      obtain ⟨x530, hx, r531⟩ := RpAll.get (RpAll.mono eG521 (RpAll.mono eG474 d412)) hj
      obtain ⟨a532, v534, v535, rfl, h533, r536, r537⟩ := rp_tup2 r531
      obtain rfl := rp_int r536
      obtain rfl := rp_int r537
      obtain ⟨z538, hw⟩ := cW_mapA hx hw
      have hw := cW_noEr hw
      have hw : cW (F__law_predicted_c2  (x530)) _ (fun _ => False) := hw
      unfold F__law_predicted_c2 at hw
      refine ⟨rfl, ?_⟩
      refine tyes_go ?_
      refine ⟨_, rfl, _, _, _, _, rfl, rfl, (SqT.of (S518.sG _ _ h533)), rfl, _, h519, (app_lenM z538), ?_⟩
      generalize g540 : upd H517 D492 _ = H541
      obtain ⟨x542, h543⟩ := gen_mut g540
      have S544 := S518.mut1 x542 (.head _) h543
      have hw := cW_ok hw
      have h545 := (x542 _ _ h529 (ne_of_none h488 n493))
      exact ⟨_, (acc522 ++ [x530.2]), eG521, S544, h545, (snoc_map h543), (same_mut eo528 x542 n493), hw⟩
    intro H546 hw
    obtain ⟨G549, acc551, eG550, S547, h558, h548, eo557, hw⟩ := hw
    have hw := hK491 _ (cW_mapA0 (by rw [(RpAll.mono eG550 (RpAll.mono eG474 d412)).len, List.length_map]) hw)
    have fr559 := S487.free n493
    refine ⟨rfl, rfl, G549, _, _, rfl, S547.sG, (hide_nil h548), cW_call hw (fun v560 hw H561 e562 => ?_) (fun e he H2 e2 => hE e he H2 (Same.trans S547.b0 e2))⟩
    have S563 := S547.same e562
    refine ⟨(by show 2 ≤ sizeLine; decide), fun p564 n565 => ?_⟩
    generalize g566 : upd H561 p564 _ = H567
    obtain ⟨e568, h569⟩ := gen_new n565 g566
    have h570 : H567 p564 = some (.tup [V.int (v484), V.int (v560)]) := h569
    have fr571 := S563.free n565
    obtain ⟨G573, eG574, hg575, S572⟩ := S563.grow n565 e568 h570 fr571
    have hw := cW_ok hw
    exact hK0 _ hw _ _ _ S572.b0 S572.g0 S572.sG S572.gn (rp_mk2 hg575 (.int _) (.int _))

abbrev N__law_component : List Str := ["first", "second"]
theorem sc__law_component : FnScope N__law_component ["first", "second"] (defScope s__law_component) := ⟨rfl, rfl, rfl, by decide +kernel, rfl, by decide +kernel, by decide +kernel⟩
theorem ok__law_component (D : DefX K mg "_law_component" s__law_component ["first", "second"] pats__law_component) (T : Txt w K mg AD)  : CalX P w K mg base 1 "_law_component" (sp__law_component K AD) pats__law_component := by
  refine D.ok sc__law_component (fun vs H Q E h => ?_) (fun f cdv A_ outer s H vs Q E hr h => ?_)
  · obtain ⟨G, first', second', rfl, _⟩ := h
    rfl
  · obtain ⟨G, first', second', rfl, sG, hw⟩ := h
    refine ⟨_, (pss_one (ps_ret (pe_ix (ix_listK (K := K)) (pe_lst (pa_cons pe_int (pa_cons pe_int (pa_cons (pe_un un_neg pe_int) (pa_cons pe_int (pa_cons (pe_op op_sub (pe_op op_mod (pe_callTy call_int1 (by rfl) T.b_int (by decide +kernel) (pa_cons (pv 1) pa_nil)) pe_int) pe_int) (pa_cons (pe_op op_sub (pe_op op_mod (pe_callTy call_int1 (by rfl) T.b_int (by decide +kernel) (pa_cons (pv 1) pa_nil)) pe_int) pe_int) (pa_cons (pe_op op_sub (pe_op op_mod (pe_callTy call_int1 (by rfl) T.b_int (by decide +kernel) (pa_cons (pv 1) pa_nil)) pe_int) pe_int) pa_nil)))))))) (pv 0) (fun _ _ => rfl)))), ?_⟩
    obtain ⟨KK, EE, hK0, hE, hw⟩ := cW_gen hw
    have S0 := Sep.startG sG
    unfold F__law_component at hw
    refine ⟨_, rfl, _, rfl, .inl ⟨_, rfl, ?_⟩⟩
    refine ⟨_, _, rfl, rfl, (show (0 : Int) < 9 by decide), _, _, rfl, rfl, _, rfl, .inl ⟨_, rfl, ?_⟩⟩
    refine ⟨_, _, rfl, rfl, (show (0 : Int) < 65 by decide), _, _, rfl, rfl, _, rfl, .inl ⟨_, rfl, ?_⟩⟩
    refine ⟨_, _, rfl, rfl, (show (0 : Int) < 2047 by decide), _, _, rfl, rfl, (by show 7 ≤ sizeLine; decide), fun p576 n577 => ?_⟩
    generalize g578 : upd H p576 _ = H579
    obtain ⟨e580, h581⟩ := gen_new n577 g578
    have h582 : H579 p576 = some (.lst (([0, 1023, (-1023), 4, ((second' % 9) - 4), ((second' % 65) - 32), ((second' % 2047) - 1023)] : (List Int)).map V.int)) := h581
    have fr583 := S0.free n577
    have S584 := S0.new n577 e580 h582 fr583
    obtain ⟨g585, hw⟩ := cW_grd hw
    refine ⟨_, rfl, _, _, _, _, rfl, rfl, (SqL.of h582), (atI_map g585), ?_⟩
    have hw := cW_ok hw
    exact hK0 _ hw _ S584.b0

abbrev N__law_motion : List Str := ["cell", "kind", "refs", "draws", "first", "second"]
theorem sc__law_motion : FnScope N__law_motion ["cell", "kind", "refs"] (defScope s__law_motion) := ⟨rfl, rfl, rfl, by decide +kernel, rfl, by decide +kernel, by decide +kernel⟩
theorem ok__law_motion (D : DefX K mg "_law_motion" s__law_motion ["cell", "kind", "refs"] pats__law_motion) (T : Txt w K mg AD) (c__law_draws : CalX P w K mg base 1 "_law_draws" (sp__law_draws K AD) pats__law_draws) (c__law_component : CalX P w K mg base 1 "_law_component" (sp__law_component K AD) pats__law_component) : CalX P w K mg base 2 "_law_motion" (sp__law_motion K AD) pats__law_motion := by
  refine D.ok sc__law_motion (fun vs H Q E h => ?_) (fun f cdv A_ outer s H vs Q E hr h => ?_)
  · obtain ⟨G, cell', kind', refs', rfl, _⟩ := h
    rfl
  · obtain ⟨G, cell', kind', refs', rfl, sG, hw⟩ := h
    refine ⟨_, (pss_cons (ps_set (i := 3) sc__law_motion.nd rfl (Or.inl rfl) (vx_callX c__law_draws pat__law_draws_0 (.head _) hr (by decide) (takes_of rfl rfl rfl rfl) rfl (pa_cons (pv 0) (pa_cons (pe_lst (pa_cons pe_int (pa_cons pe_int (pa_cons pe_int (pa_cons pe_int (pa_cons pe_int (pa_cons pe_int (pa_cons pe_int (pa_cons pe_int (pa_cons pe_int (pa_cons pe_int pa_nil))))))))))) pa_nil)) pk_nil))
      (pss_cons (ps_set (i := 4) sc__law_motion.nd rfl (Or.inl rfl) (pe_tup (pa_cons (vx_callX c__law_component pat__law_component_0 (.head _) hr (by decide) (takes_of rfl rfl rfl rfl) rfl (pa_cons (pe_ix (ix_listK (K := K)) (pv 3) pe_int (fun _ _ => rfl)) (pa_cons (pe_ix (ix_listK (K := K)) (pv 3) pe_int (fun _ _ => rfl)) pa_nil)) pk_nil) (pa_cons (vx_callX c__law_component pat__law_component_0 (.head _) hr (by decide) (takes_of rfl rfl rfl rfl) rfl (pa_cons (pe_ix (ix_listK (K := K)) (pv 3) pe_int (fun _ _ => rfl)) (pa_cons (pe_ix (ix_listK (K := K)) (pv 3) pe_int (fun _ _ => rfl)) pa_nil)) pk_nil) pa_nil))))
      (pss_cons (ps_set (i := 5) sc__law_motion.nd rfl (Or.inl rfl) (pe_tup (pa_cons (vx_callX c__law_component pat__law_component_0 (.head _) hr (by decide) (takes_of rfl rfl rfl rfl) rfl (pa_cons (pe_ix (ix_listK (K := K)) (pv 3) pe_int (fun _ _ => rfl)) (pa_cons (pe_ix (ix_listK (K := K)) (pv 3) pe_int (fun _ _ => rfl)) pa_nil)) pk_nil) (pa_cons (vx_callX c__law_component pat__law_component_0 (.head _) hr (by decide) (takes_of rfl rfl rfl rfl) rfl (pa_cons (pe_ix (ix_listK (K := K)) (pv 3) pe_int (fun _ _ => rfl)) (pa_cons (pe_ix (ix_listK (K := K)) (pv 3) pe_int (fun _ _ => rfl)) pa_nil)) pk_nil) pa_nil))))
      (pss_cons (ps_if (pt_cmp (pc_eqI (pv 1) pe_int)) (pss_one (ps_ret (pe_tup (pa_cons pe_int (pa_cons (pe_op op_mod (pe_callTy call_int1 (by rfl) T.b_int (by decide +kernel) (pa_cons (pe_ix (ix_listK (K := K)) (pv 3) pe_int (fun _ _ => rfl)) pa_nil)) (pv 2)) (pa_cons (pv 4) (pa_cons pe_non pa_nil))))))) pss_nil)
      (pss_cons (ps_if (pt_cmp (pc_eqI (pe_ix (ix_listK (K := K)) (pv 3) pe_int (fun _ _ => rfl)) pe_int)) (pss_one (ps_ret (pe_tup (pa_cons pe_int (pa_cons pe_int (pa_cons (pv 4) (pa_cons pe_non pa_nil))))))) pss_nil)
      (pss_cons (ps_if (pt_cmp (pc_eqI (pe_ix (ix_listK (K := K)) (pv 3) pe_int (fun _ _ => rfl)) pe_int)) (pss_one (ps_ret (pe_tup (pa_cons pe_int (pa_cons pe_int (pa_cons pe_non (pa_cons (pv 5) pa_nil))))))) pss_nil)
      (pss_one (ps_ret (pe_tup (pa_cons pe_int (pa_cons pe_int (pa_cons (pv 4) (pa_cons (pv 5) pa_nil))))))))))))), ?_⟩
    obtain ⟨KK, EE, hK0, hE, hw⟩ := cW_gen hw
    have S0 := Sep.startG sG
    unfold F__law_motion at hw
    refine ⟨_, rfl, (by show 10 ≤ sizeLine; decide), fun p586 n587 => ?_⟩
    generalize g588 : upd H p586 _ = H589
    obtain ⟨e590, h591⟩ := gen_new n587 g588
    have h592 : H589 p586 = some (.lst (([3, 2, 7, 2047, 7, 2047, 7, 2047, 7, 2047] : (List Int)).map V.int)) := h591
    have fr593 := S0.free n587
    have S594 := S0.new n587 e590 h592 fr593
    refine ⟨rfl, rfl, G, _, _, _, rfl, S594.sG, (hide_nil h592), cW_call hw (fun v595 hw p598 H596 n599 e597 h600 => ?_) (fun e he H2 e2 => hE e he H2 (Same.trans S594.b0 e2))⟩
    have h601 : H596 p598 = some (.lst ((v595 : (List Int)).map V.int)) := h600
    have fr602 := S594.free n599
    have S603 := S594.new n599 e597 h601 fr602
    obtain ⟨g604, hw⟩ := cW_grd hw
    obtain ⟨g605, hw⟩ := cW_grd hw
    refine ⟨_, rfl, _, _, _, _, rfl, rfl, (SqL.of h601), (atI_map g604), _, rfl, _, _, _, _, rfl, rfl, (SqL.of h601), (atI_map g605), rfl, rfl, G, _, _, rfl, S603.sG, cW_call hw (fun v606 hw H607 e608 => ?_) (fun e he H2 e2 => hE e he H2 (Same.trans S603.b0 e2))⟩
    have S609 := S603.same e608
    obtain ⟨g610, hw⟩ := cW_grd hw
    have h611 := (e608 _ _ h601)
    obtain ⟨g612, hw⟩ := cW_grd hw
    refine ⟨_, rfl, _, _, _, _, rfl, rfl, (SqL.of h611), (atI_map g610), _, rfl, _, _, _, _, rfl, rfl, (SqL.of h611), (atI_map g612), rfl, rfl, G, _, _, rfl, S609.sG, cW_call hw (fun v613 hw H614 e615 => ?_) (fun e he H2 e2 => hE e he H2 (Same.trans S609.b0 e2))⟩
    have S616 := S609.same e615
    refine ⟨(by show 2 ≤ sizeLine; decide), fun p617 n618 => ?_⟩
    generalize g619 : upd H614 p617 _ = H620
    obtain ⟨e621, h622⟩ := gen_new n618 g619
    have h623 : H620 p617 = some (.tup [V.int (v606), V.int (v613)]) := h622
    have fr624 := S616.free n618
    obtain ⟨G626, eG627, hg628, S625⟩ := S616.grow n618 e621 h623 fr624
    obtain ⟨g629, hw⟩ := cW_grd hw
    have h630 := (e621 _ _ (e615 _ _ h611))
    obtain ⟨g631, hw⟩ := cW_grd hw
    refine ⟨_, rfl, _, _, _, _, rfl, rfl, (SqL.of h630), (atI_map g629), _, rfl, _, _, _, _, rfl, rfl, (SqL.of h630), (atI_map g631), rfl, rfl, G626, _, _, rfl, S625.sG, cW_call hw (fun v632 hw H633 e634 => ?_) (fun e he H2 e2 => hE e he H2 (Same.trans S625.b0 e2))⟩
    have S635 := S625.same e634
    obtain ⟨g636, hw⟩ := cW_grd hw
    have h637 := (e634 _ _ h630)
    obtain ⟨g638, hw⟩ := cW_grd hw
    refine ⟨_, rfl, _, _, _, _, rfl, rfl, (SqL.of h637), (atI_map g636), _, rfl, _, _, _, _, rfl, rfl, (SqL.of h637), (atI_map g638), rfl, rfl, G626, _, _, rfl, S635.sG, cW_call hw (fun v639 hw H640 e641 => ?_) (fun e he H2 e2 => hE e he H2 (Same.trans S635.b0 e2))⟩
    have S642 := S635.same e641
    refine ⟨(by show 2 ≤ sizeLine; decide), fun p643 n644 => ?_⟩
    generalize g645 : upd H640 p643 _ = H646
    obtain ⟨e647, h648⟩ := gen_new n644 g645
    have h649 : H646 p643 = some (.tup [V.int (v632), V.int (v639)]) := h648
    have fr650 := S642.free n644
    obtain ⟨G652, eG653, hg654, S651⟩ := S642.grow n644 e647 h649 fr650
    refine ⟨_, rfl, _, _, rfl, rfl, _, rfl, ?_⟩
    refine iteD (fun c655 => ?_) (fun c655 => ?_)
    · have hw := cW_pos c655 hw
      obtain ⟨g656, hw⟩ := cW_grd hw
      have h657 := (e647 _ _ (e641 _ _ h637))
      refine ⟨_, rfl, _, _, _, _, rfl, rfl, (SqL.of h657), (atI_map g656), .inl ⟨_, rfl, ?_⟩⟩
      obtain ⟨g658, hw⟩ := cW_grd hw
      refine ⟨_, rfl, _, _, rfl, rfl, g658, _, rfl, (by show 4 ≤ sizeLine; decide), fun p659 n660 => ?_⟩
      generalize g661 : upd H646 p659 _ = H662
      obtain ⟨e663, h664⟩ := gen_new n660 g661
      have h665 : H662 p659 = some (.tup [V.int (0), V.int (((itD (v595) (1)) % refs')), V.ref p617, V.non]) := h664
      have fr666 := S651.free n660
      obtain ⟨G668, eG669, hg670, S667⟩ := S651.grow n660 e663 h665 fr666
      have r671 : Rp G668 (V.ref p659) (encD ((encT4 PyData.int PyData.int (encT2 PyData.int PyData.int) encN) ((0, ((itD (v595) (1)) % refs'), (v606, v613), ())))) := (rp_mk4 hg670 (.int _) (.int _) (rp_mk2 (eG669 _ _ (eG653 _ _ hg628)) (.int _) (.int _)) .non)
      have hw := cW_ok hw
      exact hK0 _ hw _ _ _ S667.b0 S667.g0 S667.sG S667.gn r671
    · have hw := cW_neg c655 hw
      obtain ⟨g672, hw⟩ := cW_grd hw
      have h673 := (e647 _ _ (e641 _ _ h637))
      refine ⟨_, rfl, _, _, _, _, rfl, rfl, (SqL.of h673), (atI_map g672), _, _, rfl, rfl, _, rfl, ?_⟩
      refine iteD (fun c674 => ?_) (fun c674 => ?_)
      · have hw := cW_pos c674 hw
        refine ⟨_, rfl, (by show 4 ≤ sizeLine; decide), fun p675 n676 => ?_⟩
        generalize g677 : upd H646 p675 _ = H678
        obtain ⟨e679, h680⟩ := gen_new n676 g677
        have h681 : H678 p675 = some (.tup [V.int (0), V.int (0), V.ref p617, V.non]) := h680
        have fr682 := S651.free n676
        obtain ⟨G684, eG685, hg686, S683⟩ := S651.grow n676 e679 h681 fr682
        have r687 : Rp G684 (V.ref p675) (encD ((encT4 PyData.int PyData.int (encT2 PyData.int PyData.int) encN) ((0, 0, (v606, v613), ())))) := (rp_mk4 hg686 (.int _) (.int _) (rp_mk2 (eG685 _ _ (eG653 _ _ hg628)) (.int _) (.int _)) .non)
        have hw := cW_ok hw
        exact hK0 _ hw _ _ _ S683.b0 S683.g0 S683.sG S683.gn r687
      · have hw := cW_neg c674 hw
        obtain ⟨g688, hw⟩ := cW_grd hw
        refine ⟨_, rfl, _, _, _, _, rfl, rfl, (SqL.of h673), (atI_map g688), _, _, rfl, rfl, _, rfl, ?_⟩
        refine iteD (fun c689 => ?_) (fun c689 => ?_)
        · have hw := cW_pos c689 hw
          refine ⟨_, rfl, (by show 4 ≤ sizeLine; decide), fun p690 n691 => ?_⟩
          generalize g692 : upd H646 p690 _ = H693
          obtain ⟨e694, h695⟩ := gen_new n691 g692
          have h696 : H693 p690 = some (.tup [V.int (1), V.int (0), V.non, V.ref p643]) := h695
          have fr697 := S651.free n691
          obtain ⟨G699, eG700, hg701, S698⟩ := S651.grow n691 e694 h696 fr697
          have r702 : Rp G699 (V.ref p690) (encD ((encT4 PyData.int PyData.int encN (encT2 PyData.int PyData.int)) ((1, 0, (), (v632, v639))))) := (rp_mk4 hg701 (.int _) (.int _) .non (rp_mk2 (eG700 _ _ hg654) (.int _) (.int _)))
          have hw := cW_ok hw
          exact hK0 _ hw _ _ _ S698.b0 S698.g0 S698.sG S698.gn r702
        · have hw := cW_neg c689 hw
          refine ⟨_, rfl, _, rfl, (by show 4 ≤ sizeLine; decide), fun p703 n704 => ?_⟩
          generalize g705 : upd H646 p703 _ = H706
          obtain ⟨e707, h708⟩ := gen_new n704 g705
          have h709 : H706 p703 = some (.tup [V.int (2), V.int (0), V.ref p617, V.ref p643]) := h708
          have fr710 := S651.free n704
          obtain ⟨G712, eG713, hg714, S711⟩ := S651.grow n704 e707 h709 fr710
          have r715 : Rp G712 (V.ref p703) (encD ((encT4 PyData.int PyData.int (encT2 PyData.int PyData.int) (encT2 PyData.int PyData.int)) ((2, 0, (v606, v613), (v632, v639))))) := (rp_mk4 hg714 (.int _) (.int _) (rp_mk2 (eG713 _ _ (eG653 _ _ hg628)) (.int _) (.int _)) (rp_mk2 (eG713 _ _ hg654) (.int _) (.int _)))
          have hw := cW_ok hw
          exact hK0 _ hw _ _ _ S711.b0 S711.g0 S711.sG S711.gn r715

abbrev N_MotionGrid__has : List Str := ["self", "x", "y"]
theorem sc_MotionGrid__has : FnScope N_MotionGrid__has ["self", "x", "y"] (defScope s_MotionGrid__has) := ⟨rfl, rfl, rfl, by decide +kernel, rfl, by decide +kernel, by decide +kernel⟩
theorem ok_MotionGrid__has (D : MethX K AD.c_MotionGrid "MotionGrid._has" "_has" s_MotionGrid__has ["self", "x", "y"] pats_MotionGrid__has) (T : Txt w K mg AD)  : MetX P w K mg base 1 AD.c_MotionGrid "_has" (sp_MotionGrid__has K AD) pats_MotionGrid__has := by
  refine D.ok T.cl_MotionGrid sc_MotionGrid__has (fun vs H Q E h => ?_) (fun f cdv A_ outer s H vs Q E hr h => ?_)
  · obtain ⟨G, p_self, l_self_lines, dx_self, vs_self_lines, L_self_lines, self', x', y', rfl, _⟩ := h
    rfl
  · obtain ⟨G, p_self, l_self_lines, dx_self, vs_self_lines, L_self_lines, self', x', y', rfl, sG, h_p_self, h_l_self_lines, w_self_lines, hw⟩ := h
    refine ⟨_, (pss_one (ps_ret (pe_and (pe_chain op_le op_lt pe_int (pv 1) (fldK (K := K) (pv 0))) (pe_one (pe_chain op_le op_lt pe_int (pv 2) (fldK (K := K) (pv 0))))))), ?_⟩
    obtain ⟨KK, EE, hK0, hE, hw⟩ := cW_gen hw
    have S0 := Sep.startG sG
    unfold F_MotionGrid__has at hw
    refine ⟨_, rfl, _, _, rfl, rfl, _, rfl, ?_⟩
    refine iteD (fun c716 => ?_) (fun c716 => ?_)
    · have hw := cW_pos c716 hw
      refine ⟨_, rfl, _, _, _, _, _, rfl, (S0.bM _ _ h_p_self), T.cl_MotionGrid, T.n_MotionGrid__width, rfl, _, _, rfl, rfl, _, rfl, ?_⟩
      refine iteB (fun c717 => ?_) (fun c717 => ?_)
      · have hw := cW_pos c717 hw
        refine ⟨_, rfl, _, _, rfl, rfl, _, rfl, ?_⟩
        refine iteD (fun c718 => ?_) (fun c718 => ?_)
        · have hw := cW_pos c718 hw
          refine ⟨_, rfl, _, _, _, _, _, rfl, (S0.bM _ _ h_p_self), T.cl_MotionGrid, T.n_MotionGrid__height, rfl, _, _, rfl, rfl, ?_⟩
          have hw := cW_ok hw
          exact hK0 _ hw _ S0.b0
        · have hw := cW_neg c718 hw
          have hw := cW_ok hw
          exact hK0 _ hw _ S0.b0
      · have hw := cW_negB c717 hw
        have hw := cW_ok hw
        exact hK0 _ hw _ S0.b0
    · have hw := cW_neg c716 hw
      refine ⟨_, rfl, ?_⟩
      refine iteF ?_
      have hw := cW_ok hw
      exact hK0 _ hw _ S0.b0

abbrev N_MotionGrid_keep_quarter : List Str := ["self", "x", "y", "motion"]
theorem sc_MotionGrid_keep_quarter : FnScope N_MotionGrid_keep_quarter ["self", "x", "y", "motion"] (defScope s_MotionGrid_keep_quarter) := ⟨rfl, rfl, rfl, by decide +kernel, rfl, by decide +kernel, by decide +kernel⟩
theorem ok_MotionGrid_keep_quarter (D : MethX K AD.c_MotionGrid "MotionGrid.keep_quarter" "keep_quarter" s_MotionGrid_keep_quarter ["self", "x", "y", "motion"] pats_MotionGrid_keep_quarter) (T : Txt w K mg AD) (c_MotionGrid__has : MetX P w K mg base 1 AD.c_MotionGrid "_has" (sp_MotionGrid__has K AD) pats_MotionGrid__has) : MetX P w K mg base 2 AD.c_MotionGrid "keep_quarter" (sp_MotionGrid_keep_quarter K AD) pats_MotionGrid_keep_quarter := by
  refine D.ok T.cl_MotionGrid sc_MotionGrid_keep_quarter (fun vs H Q E h => ?_) (fun f cdv A_ outer s H vs Q E hr h => ?_)
  · obtain ⟨G, p_self, l_self_lines, dx_self, vs_self_lines, L_self_lines, self', x', y', v_motion, motion', rfl, _⟩ := h
    rfl
  · obtain ⟨G, p_self, l_self_lines, dx_self, vs_self_lines, L_self_lines, self', x', y', v_motion, motion', rfl, sG, gM, h_p_self, h_l_self_lines, w_self_lines, nw_self_lines_0, nw_self_lines_1, r_motion, hw⟩ := h
    refine ⟨_, (pss_one (ps_if (pt_val (vx_methX c_MotionGrid__has pat_MotionGrid__has_0 (.head _) hr (by decide) (takes_of rfl rfl rfl rfl) (pv 0) (pa_cons (pv 1) (pa_cons (pv 2) pa_nil)) pk_nil)) (pss_one (ps_asg (pv 3) (pg_sub (pe_ix (ix_listK (K := K)) (fldK (K := K) (pv 0)) (pv 2) (fun _ _ => rfl)) (pv 1) set_list))) pss_nil)), ?_⟩
    obtain ⟨KK, EE, hK0, hE, hw⟩ := cW_gen hw
    have S0 := Sep.startM (M := (p_self :: (l_self_lines :: (L_self_lines ++ [])))) sG (all_cons (some_ne h_p_self) (all_cons (some_ne h_l_self_lines) (all_app (OwAll.there w_self_lines) all_nil))) gM
    unfold F_MotionGrid_keep_quarter at hw
    refine ⟨_, rfl, _, _, _, rfl, h_p_self, rfl, _, rfl, _, rfl, rfl, rfl, G, _, _, _, _, L_self_lines, self', _, _, rfl, S0.sG, (hide_nil h_p_self), (hide_nil h_l_self_lines), (OwAll.mono (Same.refl _) (keeps_hide (((fun b hb => nm_nil) : ∀ b ∈ L_self_lines, b ∉ []))) w_self_lines), cW_call hw (fun v719 hw H720 e721 => ?_) (fun e he H2 e2 => hE e he H2 (Same.trans (Same.refl _) e2))⟩
    have S722 := S0.same e721
    refine ⟨_, rfl, ?_⟩
    refine iteB (fun c723 => ?_) (fun c723 => ?_)
    · have hw := cW_pos c723 hw
      refine ⟨_, rfl, ?_⟩
      have h724 := (e721 _ _ h_p_self)
      obtain ⟨g725, hw⟩ := cW_grd hw
      have w726 : OwAll G H720 L_self_lines (vs_self_lines) ((self'.lines : (List (List PyData))).map (oL (oF encD))) := (OwAll.mono (Same.refl _) (keeps_same e721) w_self_lines)
      obtain ⟨v727, L728, a729, w730, hs731, up732, gr733⟩ := OwAll.partM (k := y') w726 g725
      have h734 := (e721 _ _ h_l_self_lines)
      obtain ⟨b735, vs736, L737, rfl, rfl, h738, w739, nb740⟩ := Ow.toList w730
      obtain ⟨g741, hw⟩ := cW_grd hw
      refine ⟨_, rfl, _, _, _, _, _, rfl, h724, T.cl_MotionGrid, T.n_MotionGrid__lines, rfl, _, rfl, _, _, _, _, rfl, rfl, (SqL.of h734), a729, _, rfl, _, _, _, _, rfl, rfl, h738, (ixN_len w739.lenM g741), ?_⟩
      obtain ⟨L742, hL743, w744⟩ := OwAll.setM w739 g741 (Ow.frz r_motion) (all_nil : ∀ b ∈ ([] : List Addr), b ∉ L737)
      generalize g746 : upd H720 b735 _ = H747
      obtain ⟨x748, h749⟩ := gen_mut g746
      have h750 : H747 b735 = some (.lst ((vs736).set ((ixN (vs736).length (x')).getD 0) (v_motion))) := h749
      have S751 := S722.mut1 x748 ((((fun b hb => (.tail _ (.tail _ (List.mem_append_left _ hb)))) : ∀ b ∈ L_self_lines, b ∈ (p_self :: (l_self_lines :: (L_self_lines ++ [])))) : ∀ b ∈ L_self_lines, b ∈ (p_self :: (l_self_lines :: (L_self_lines ++ [])))) _ (hs731 _ List.mem_cons_self)) h750
      have w745 : OwAll G H747 L742 ((vs736).set ((ixN (vs736).length (x')).getD 0) (v_motion)) ((setL ((itD (self'.lines) (y'))) (x') (motion') : (List PyData)).map (oF encD)) := OwAll.mono (Same.refl _) (keeps_mut x748 ((fun b hb => ((all_app nb740 all_nil) : ∀ b ∈ (L737 ++ ([] : List Addr)), b ≠ b735) b (hL743 b hb)) : ∀ b ∈ L742, b ≠ b735)) w744
      obtain ⟨L752, hL753, w754⟩ := gr733 H747 _ ([] : List Addr) (b735 :: L742) (grow_keeps (Same.refl _) x748 List.mem_cons_self) (grow_sub hL743) (all_nil : ∀ b ∈ ([] : List Addr), b ∉ L_self_lines) (Ow.list h750 w745 ((fun b hb => ((all_app nb740 all_nil) : ∀ b ∈ (L737 ++ ([] : List Addr)), b ≠ b735) b (hL743 b hb)) : ∀ b ∈ L742, b ≠ b735))
      have w755 : OwAll G H747 L752 (vs_self_lines) ((setL (self'.lines) (y') (setL ((itD (self'.lines) (y'))) (x') (motion')) : (List (List PyData))).map (oL (oF encD))) := w754
      have hw := cW_bnd hw
      have h757 := (x748 _ _ h724 (nw_self_lines_0 _ (hs731 _ List.mem_cons_self)).symm)
      have h758 := (x748 _ _ h734 (nw_self_lines_1 _ (hs731 _ List.mem_cons_self)).symm)
      have hw := cW_ok hw
      exact hK0 _ hw _ _ _ L752 S751.base S751.g0 S751.sG S751.gn S751.pm h757 h758 ((fun b hb => ((all_app (fun b hb => .inl hb) all_nil) : ∀ b ∈ (L_self_lines ++ ([] : List Addr)), b ∈ L_self_lines ∨ H b = none) b (hL753 b hb)) : ∀ b ∈ L752, b ∈ L_self_lines ∨ H b = none) ((fun b hb => (S751.ow b ((fun b hb => ((all_app ((fun b hb => (.tail _ (.tail _ (List.mem_append_left _ hb)))) : ∀ b ∈ L_self_lines, b ∈ (p_self :: (l_self_lines :: (L_self_lines ++ [])))) all_nil) : ∀ b ∈ (L_self_lines ++ ([] : List Addr)), b ∈ (p_self :: (l_self_lines :: (L_self_lines ++ [])))) b (hL753 b hb)) b hb)).1) : ∀ b ∈ L752, G b = none) ((fun b hb => ((all_app nw_self_lines_0 all_nil) : ∀ b ∈ (L_self_lines ++ ([] : List Addr)), b ≠ p_self) b (hL753 b hb)) : ∀ b ∈ L752, b ≠ p_self) ((fun b hb => ((all_app nw_self_lines_1 all_nil) : ∀ b ∈ (L_self_lines ++ ([] : List Addr)), b ≠ l_self_lines) b (hL753 b hb)) : ∀ b ∈ L752, b ≠ l_self_lines) w755
    · have hw := cW_negB c723 hw
      have h759 := (e721 _ _ h_p_self)
      have h760 := (e721 _ _ h_l_self_lines)
      have w761 : OwAll G H720 L_self_lines (vs_self_lines) ((self'.lines : (List (List PyData))).map (oL (oF encD))) := (OwAll.mono (Same.refl _) (keeps_same e721) w_self_lines)
      have hw := cW_ok hw
      exact hK0 _ hw _ _ _ L_self_lines S722.base S722.g0 S722.sG S722.gn S722.pm h759 h760 ((fun b hb => .inl hb) : ∀ b ∈ L_self_lines, b ∈ L_self_lines ∨ H b = none) ((fun b hb => (S722.ow b (((fun b hb => (.tail _ (.tail _ (List.mem_append_left _ hb)))) : ∀ b ∈ L_self_lines, b ∈ (p_self :: (l_self_lines :: (L_self_lines ++ [])))) b hb)).1) : ∀ b ∈ L_self_lines, G b = none) (nw_self_lines_0 : ∀ b ∈ L_self_lines, b ≠ p_self) (nw_self_lines_1 : ∀ b ∈ L_self_lines, b ≠ l_self_lines) w761

abbrev N_MotionGrid_keep : List Str := ["self", "column", "row", "motions", "kept", "four", "place", "motion"]
theorem sc_MotionGrid_keep : FnScope N_MotionGrid_keep ["self", "column", "row", "motions"] (defScope s_MotionGrid_keep) := ⟨rfl, rfl, rfl, by decide +kernel, rfl, by decide +kernel, by decide +kernel⟩
theorem ok_MotionGrid_keep (D : MethX K AD.c_MotionGrid "MotionGrid.keep" "keep" s_MotionGrid_keep ["self", "column", "row", "motions"] pats_MotionGrid_keep) (T : Txt w K mg AD) (c_MotionGrid_keep_quarter : MetX P w K mg base 2 AD.c_MotionGrid "keep_quarter" (sp_MotionGrid_keep_quarter K AD) pats_MotionGrid_keep_quarter) : MetX P w K mg base 3 AD.c_MotionGrid "keep" (sp_MotionGrid_keep K AD) pats_MotionGrid_keep := by
  refine D.ok T.cl_MotionGrid sc_MotionGrid_keep (fun vs H Q E h => ?_) (fun f cdv A_ outer s H vs Q E hr h => ?_)
  · obtain ⟨G, p_self, l_self_lines, dx_self, vs_self_lines, L_self_lines, self', column', row', v_motions, motions', rfl, _⟩ := h
    rfl
  · obtain ⟨G, p_self, l_self_lines, dx_self, vs_self_lines, L_self_lines, self', column', row', v_motions, motions', rfl, sG, gM, h_p_self, h_l_self_lines, w_self_lines, nw_self_lines_0, nw_self_lines_1, r_motions, hw⟩ := h
    refine ⟨_, (pss_cons (ps_set (i := 4) sc_MotionGrid_keep.nd rfl (Or.inl rfl) (pe_ifExp (pt_cmpR op_isND (pv 3) pe_non (nomark _)) (pe_lst (pa_cons pe_non pa_nil)) (pv 3)))
      (pss_cons (ps_set (i := 5) sc_MotionGrid_keep.nd rfl (Or.inl rfl) (pe_ifExp (pt_cmp (pc_eqI (pe_callB (call_lenLK (K := K)) (by rfl) T.b_len (by decide +kernel) (pa_cons (pv 4) pa_nil)) pe_int)) (pe_op op_rep (pv 4) pe_int) (pv 4)))
      (pss_one (ps_for (passes_of rfl) rfl (pi_enumK (K := K) rfl T.b_enumerate (pa_cons (pv 5) pa_nil)) (pg_tupK (K := K) (n := 2) (pgs_cons (pg_name (i := 6) sc_MotionGrid_keep.nd rfl (Or.inl rfl)) (pgs_cons (pg_name (i := 7) sc_MotionGrid_keep.nd rfl (Or.inl rfl)) pgs_nil))) (pss_one (ps_expr (vx_methX c_MotionGrid_keep_quarter pat_MotionGrid_keep_quarter_0 (.head _) hr (by decide) (takes_of rfl rfl rfl rfl) (pv 0) (pa_cons (pe_op op_add (pe_op op_mul pe_int (pv 1)) (pe_op op_mod (pv 6) pe_int)) (pa_cons (pe_op op_add (pe_op op_mul pe_int (pv 2)) (pe_op op_fdivW (pv 6) pe_int)) (pa_cons (pv 7) pa_nil))) pk_nil))))))), ?_⟩
    obtain ⟨KK, EE, hK0, hE, hw⟩ := cW_gen hw
    have S0 := Sep.startM (M := (p_self :: (l_self_lines :: (L_self_lines ++ [])))) sG (all_cons (some_ne h_p_self) (all_cons (some_ne h_l_self_lines) (all_app (OwAll.there w_self_lines) all_nil))) gM
    unfold F_MotionGrid_keep at hw
    cases motions' with
    | none =>
      obtain rfl := r_motions
      have hw := cW_optN hw
      refine ⟨_, rfl, (encN (())), rfl, .non, _, rfl, ?_⟩
      refine iteT ?_
      have r763 : Rp G (V.non) (encD (encN (()))) := .non
      refine ⟨(by show 1 ≤ sizeLine; decide), fun p764 n765 => ?_⟩
      generalize g766 : upd H p764 _ = H767
      obtain ⟨e768, h769⟩ := gen_new n765 g766
      have h770 : H767 p764 = some (.lst ([(V.non)])) := h769
      have fr771 := S0.free n765
      have S772 := S0.new n765 e768 h770 fr771
      have d773 : RpAll G ([(V.non)]) (([(encN (()))] : (List PyData)).map encD) := (RpAll.cons r763 RpAll.nil)
      refine ⟨_, rfl, _, _, _, rfl, (SqL.of h770), (by rw [d773.len, List.length_map]), _, _, rfl, rfl, _, rfl, ?_⟩
      refine iteD (fun c774 => ?_) (fun c774 => ?_)
      · have hw := cW_pos c774 hw
        obtain ⟨g775, hw⟩ := cW_grd hw
        refine ⟨_, rfl, _, _, _, rfl, rfl, h770, g775.1, g775.2.1, (rep_len d773 g775.2.2), fun p776 n777 => ?_⟩
        generalize g778 : upd H767 p776 _ = H779
        obtain ⟨e780, h781⟩ := gen_new n777 g778
        have h782 : H779 p776 = some (.lst ((List.replicate (Int.toNat (4)) ([(V.non)])).flatten)) := h781
        have fr783 := S772.free n777
        have S784 := S772.new n777 e780 h782 fr783
        have d785 : RpAll G ((List.replicate (Int.toNat (4)) ([(V.non)])).flatten) ((repL ([(encN (()))]) (4) : (List PyData)).map encD) := rep_all (4) d773
        obtain ⟨K788, hK789, hw⟩ := cW_push hw
        refine ⟨_, rfl, _, _, rfl, (SqL.of h782), for_enum (K := K) (a := p776) (xs := (List.replicate (Int.toNat (4)) ([(V.non)])).flatten) (fun i σ H' => ∃ (self_790 : St_MotionGrid) (vs791 : List V) (L792 : List Addr) (u793 : Option V) (u794 : Option V) (G' : Hp), σ = [some (V.ref p_self), some (V.int (column')), some (V.int (row')), some (V.non), some (V.ref p764), some (V.ref p776), u793, u794] ∧ Same G G' ∧ Sep (p_self :: (l_self_lines :: (L_self_lines ++ []))) H G G' H' (p_self :: (l_self_lines :: (p764 :: (p776 :: (L792 ++ []))))) ∧ H' p_self = some (.ins AD.c_MotionGrid dx_self [("_width", V.int (self_790.width)), ("_height", V.int (self_790.height)), ("_lines", V.ref l_self_lines)]) ∧ H' l_self_lines = some (.lst (vs791)) ∧ H' p764 = some (.lst ([(V.non)])) ∧ H' p776 = some (.lst ((List.replicate (Int.toNat (4)) ([(V.non)])).flatten)) ∧ (∀ b ∈ L792, b ≠ p_self) ∧ (∀ b ∈ L792, b ≠ l_self_lines) ∧ (∀ b ∈ L792, b ≠ p764) ∧ (∀ b ∈ L792, b ≠ p776) ∧ OwAll G' H' L792 (vs791) ((self_790.lines : (List (List PyData))).map (oL (oF encD))) ∧ (∀ b ∈ L792, b ∈ L_self_lines ∨ H b = none) ∧ cW (forS (List.drop i (enumL (repL ([(encN (()))]) (4)))) self_790 (fun s x => F_MotionGrid_keep_b1 (column') (row') s x)) K788 EE) ?_ ?_ ?_ ?_⟩
        · have h795 := (e780 _ _ (e768 _ _ h_p_self))
          have h796 := (e780 _ _ (e768 _ _ h_l_self_lines))
          have h797 := (e780 _ _ h770)
          have w798 : OwAll G H779 L_self_lines (vs_self_lines) ((self'.lines : (List (List PyData))).map (oL (oF encD))) := (OwAll.mono (Same.refl _) (keeps_same e780) (OwAll.mono (Same.refl _) (keeps_same e768) w_self_lines))
          exact ⟨(self'), (vs_self_lines), L_self_lines, _, _, _, rfl, (Same.refl _), (S784.sub (all_cons (.tail _ (.tail _ (.head _))) (all_cons (.tail _ (.tail _ (.tail _ (.head _)))) (all_cons (.tail _ (.head _)) (all_cons (.head _) (all_app ((fun b hb => (.tail _ (.tail _ (.tail _ (.tail _ (List.mem_append_left _ hb)))))) : ∀ b ∈ L_self_lines, b ∈ (p776 :: (p764 :: (p_self :: (l_self_lines :: (L_self_lines ++ [])))))) all_nil)))))), h795, h796, h797, h782, nw_self_lines_0, nw_self_lines_1, (there_ne (fun b_ hb_ => (S0.ow b_ (((fun b hb => (.tail _ (.tail _ (List.mem_append_left _ hb)))) : ∀ b ∈ L_self_lines, b ∈ (p_self :: (l_self_lines :: (L_self_lines ++ [])))) b_ hb_)).2.1) n765), (there_ne (fun b_ hb_ => (S772.ow b_ (((fun b hb => (.tail _ (.tail _ (.tail _ (List.mem_append_left _ hb))))) : ∀ b ∈ L_self_lines, b ∈ (p764 :: (p_self :: (l_self_lines :: (L_self_lines ++ []))))) b_ hb_)).2.1) n777), w798, ((fun b hb => .inl hb) : ∀ b ∈ L_self_lines, b ∈ L_self_lines ∨ H b = none), hw⟩
        · intro i σ H799 hw
          obtain ⟨self_790, vs791, L792, u793, u794, G811, rfl, eG812, S800, h801, h802, h803, h804, ne805, ne806, ne807, ne808, w809, hs810, hw⟩ := hw
          exact (SqL.of h804)
        · intro i x T814 σ H813 hj n815 hw
          obtain ⟨self_790, vs791, L792, u793, u794, G827, rfl, eG828, S816, h817, h818, h819, h820, ne821, ne822, ne823, ne824, w825, hs826, hw⟩ := hw
          obtain ⟨x829, hx830, r831⟩ := RpAll.get (RpAll.mono eG828 d785) hj
          generalize g832 : upd H813 T814 _ = H833
          obtain ⟨e834, h835⟩ := gen_new n815 g832
          have h836 : H833 T814 = some (.tup [V.int (((i : Nat) : Int)), x]) := h835
          have fr837 := S816.free n815
          obtain ⟨G839, eG840, hg841, S838⟩ := S816.grow n815 e834 h836 fr837
          have hw := cW_forS (enumL_get hx830) hw
          have hw : cW (F_MotionGrid_keep_b1 (column') (row') (self_790) ((((i : Nat) : Int), x829))) _ EE := hw
          unfold F_MotionGrid_keep_b1 at hw
          obtain ⟨K843, hK844, hw⟩ := cW_name hw
          have h846 := (e834 _ _ h817)
          have h847 := (e834 _ _ h818)
          have w848 : OwAll G839 H833 L792 (vs791) ((self_790.lines : (List (List PyData))).map (oL (oF encD))) := (OwAll.mono eG840 keeps_refl (OwAll.mono (Same.refl _) (keeps_same e834) w825))
          refine ⟨_, _, rfl, (SqT.of (S838.sG _ _ hg841)), rfl, _, _, rfl, _, _, rfl, rfl, _, rfl, _, _, _, rfl, h846, rfl, _, rfl, _, _, rfl, rfl, (.inl ⟨by decide, by decide⟩), _, rfl, _, _, rfl, rfl, (show (0 : Int) < 2 by decide), _, _, rfl, rfl, _, rfl, _, _, rfl, rfl, (.inl ⟨by decide, by decide⟩), _, rfl, _, _, rfl, rfl, (divW_lit (by decide) (by decide)), _, _, rfl, rfl, _, rfl, rfl, rfl, G839, _, _, _, _, L792, self_790, _, _, _, x829, rfl, S838.sG, (S838.gno (all_cons (.head _) (all_cons (.tail _ (.head _)) (all_app ((fun b hb => (.tail _ (.tail _ (.tail _ (.tail _ (List.mem_append_left _ hb)))))) : ∀ b ∈ L792, b ∈ (p_self :: (l_self_lines :: (p764 :: (p776 :: (L792 ++ [])))))) all_nil)))), h846, h847, w848, (ne821 : ∀ b ∈ L792, b ≠ p_self), (ne822 : ∀ b ∈ L792, b ≠ l_self_lines), (Rp.mono eG840 r831), cW_callN hw (fun v849 hw H853 G856 vs863 L864 x854 eG857 sG858 hn859 pm860 h861 h862 hs865 gl866 ne868 ne869 w867 => ?_) trivial⟩
          have S855 : Sep _ _ _ G856 H853 (L864 ++ (p_self :: (l_self_lines :: (p764 :: (p776 :: []))))) := Sep.mutgrow S838 x854 (all_cons (.head _) (all_cons (.tail _ (.head _)) (all_app ((fun b hb => (.tail _ (.tail _ (.tail _ (.tail _ (List.mem_append_left _ hb)))))) : ∀ b ∈ L792, b ∈ (p_self :: (l_self_lines :: (p764 :: (p776 :: (L792 ++ [])))))) all_nil))) pm860 eG857 sG858 hn859 (all_app (fun b hb => (hs865 b hb).elim (fun z => .inl ((((fun b hb => (.tail _ (.tail _ (.tail _ (.tail _ (List.mem_append_left _ hb)))))) : ∀ b ∈ L792, b ∈ (p_self :: (l_self_lines :: (p764 :: (p776 :: (L792 ++ [])))))) : ∀ b ∈ L792, b ∈ (p_self :: (l_self_lines :: (p764 :: (p776 :: (L792 ++ [])))))) b z)) (fun z => .inr ⟨z, gl866 b hb, OwAll.there w867 b hb⟩)) (all_cons (.inl (.head _)) (all_cons (.inl (.tail _ (.head _))) (all_cons (.inl (.tail _ (.tail _ (.head _)))) (all_cons (.inl (.tail _ (.tail _ (.tail _ (.head _))))) all_nil)))))
          have hw := cW_ok hw
          have hw := hK844 _ hw
          have h872 := (x854 _ _ (e834 _ _ h819) (nm_cons (ne_of_none h_p_self n765).symm (nm_cons (ne_of_none h_l_self_lines n765).symm (nm_app (fun z => ne823 _ z rfl) nm_nil))))
          have h873 := (x854 _ _ (e834 _ _ h820) (nm_cons (ne_of_none (e768 _ _ h_p_self) n777).symm (nm_cons (ne_of_none (e768 _ _ h_l_self_lines) n777).symm (nm_app (fun z => ne824 _ z rfl) nm_nil))))
          exact ⟨(v849), (vs863), L864, _, _, _, rfl, (Same.trans (Same.trans eG828 eG840) eG857), (S855.sub (all_cons (List.mem_append_right _ (.head _)) (all_cons (List.mem_append_right _ (.tail _ (.head _))) (all_cons (List.mem_append_right _ (.tail _ (.tail _ (.head _)))) (all_cons (List.mem_append_right _ (.tail _ (.tail _ (.tail _ (.head _))))) (all_app ((fun b hb => (List.mem_append_left _ hb)) : ∀ b ∈ L864, b ∈ (L864 ++ (p_self :: (l_self_lines :: (p764 :: (p776 :: [])))))) all_nil)))))), h861, h862, h872, h873, ne868, ne869, (grown_ne hs865 (ne823 : ∀ b ∈ L792, b ≠ p764) (S838.ow _ (.tail _ (.tail _ (.head _)))).2.1), (grown_ne hs865 (ne824 : ∀ b ∈ L792, b ≠ p776) (S838.ow _ (.tail _ (.tail _ (.tail _ (.head _))))).2.1), w867, ((fun b hb => (hs865 b hb).elim (((fun b hb => (hs826 b hb).elim (((fun b hb => .inl hb) : ∀ b ∈ L_self_lines, b ∈ L_self_lines ∨ H b = none) b) (fun z => .inr (S0.free z))) : ∀ b ∈ L792, b ∈ L_self_lines ∨ H b = none) b) (fun z => .inr (S838.free z))) : ∀ b ∈ L864, b ∈ L_self_lines ∨ H b = none), hw⟩
        · intro σ H874 hw
          obtain ⟨self_790, vs791, L792, u793, u794, G886, rfl, eG887, S875, h876, h877, h878, h879, ne880, ne881, ne882, ne883, w884, hs885, hw⟩ := hw
          have hw := hK789 _ (cW_forS0 (by rw [enumL_len]; exact (by rw [(RpAll.mono eG887 d785).len, List.length_map])) hw)
          have hw : cW (F_MotionGrid_keep_r1  (self_790)) _ EE := hw
          unfold F_MotionGrid_keep_r1 at hw
          have hw := cW_ok hw
          exact hK0 _ hw _ _ _ L792 S875.base S875.g0 S875.sG S875.gn S875.pm h876 h877 ((fun b hb => (hs885 b hb).elim (((fun b hb => .inl hb) : ∀ b ∈ L_self_lines, b ∈ L_self_lines ∨ H b = none) b) (fun z => .inr (S0.free z))) : ∀ b ∈ L792, b ∈ L_self_lines ∨ H b = none) ((fun b hb => (S875.ow b (((fun b hb => (.tail _ (.tail _ (.tail _ (.tail _ (List.mem_append_left _ hb)))))) : ∀ b ∈ L792, b ∈ (p_self :: (l_self_lines :: (p764 :: (p776 :: (L792 ++ [])))))) b hb)).1) : ∀ b ∈ L792, G886 b = none) (ne880 : ∀ b ∈ L792, b ≠ p_self) (ne881 : ∀ b ∈ L792, b ≠ l_self_lines) w884
      · have hw := cW_neg c774 hw
        obtain ⟨K891, hK892, hw⟩ := cW_push hw
        refine ⟨_, rfl, _, rfl, _, _, rfl, (SqL.of h770), for_enum (K := K) (a := p764) (xs := [(V.non)]) (fun i σ H' => ∃ (self_893 : St_MotionGrid) (vs894 : List V) (L895 : List Addr) (u896 : Option V) (u897 : Option V) (G' : Hp), σ = [some (V.ref p_self), some (V.int (column')), some (V.int (row')), some (V.non), some (V.ref p764), some (V.ref p764), u896, u897] ∧ Same G G' ∧ Sep (p_self :: (l_self_lines :: (L_self_lines ++ []))) H G G' H' (p_self :: (l_self_lines :: (p764 :: (L895 ++ [])))) ∧ H' p_self = some (.ins AD.c_MotionGrid dx_self [("_width", V.int (self_893.width)), ("_height", V.int (self_893.height)), ("_lines", V.ref l_self_lines)]) ∧ H' l_self_lines = some (.lst (vs894)) ∧ H' p764 = some (.lst ([(V.non)])) ∧ (∀ b ∈ L895, b ≠ p_self) ∧ (∀ b ∈ L895, b ≠ l_self_lines) ∧ (∀ b ∈ L895, b ≠ p764) ∧ OwAll G' H' L895 (vs894) ((self_893.lines : (List (List PyData))).map (oL (oF encD))) ∧ (∀ b ∈ L895, b ∈ L_self_lines ∨ H b = none) ∧ cW (forS (List.drop i (enumL ([(encN (()))]))) self_893 (fun s x => F_MotionGrid_keep_b2 (column') (row') s x)) K891 EE) ?_ ?_ ?_ ?_⟩
        · have h898 := (e768 _ _ h_p_self)
          have h899 := (e768 _ _ h_l_self_lines)
          have w900 : OwAll G H767 L_self_lines (vs_self_lines) ((self'.lines : (List (List PyData))).map (oL (oF encD))) := (OwAll.mono (Same.refl _) (keeps_same e768) w_self_lines)
          exact ⟨(self'), (vs_self_lines), L_self_lines, _, _, _, rfl, (Same.refl _), (S772.sub (all_cons (.tail _ (.head _)) (all_cons (.tail _ (.tail _ (.head _))) (all_cons (.head _) (all_app ((fun b hb => (.tail _ (.tail _ (.tail _ (List.mem_append_left _ hb))))) : ∀ b ∈ L_self_lines, b ∈ (p764 :: (p_self :: (l_self_lines :: (L_self_lines ++ []))))) all_nil))))), h898, h899, h770, nw_self_lines_0, nw_self_lines_1, (there_ne (fun b_ hb_ => (S0.ow b_ (((fun b hb => (.tail _ (.tail _ (List.mem_append_left _ hb)))) : ∀ b ∈ L_self_lines, b ∈ (p_self :: (l_self_lines :: (L_self_lines ++ [])))) b_ hb_)).2.1) n765), w900, ((fun b hb => .inl hb) : ∀ b ∈ L_self_lines, b ∈ L_self_lines ∨ H b = none), hw⟩
        · intro i σ H901 hw
          obtain ⟨self_893, vs894, L895, u896, u897, G911, rfl, eG912, S902, h903, h904, h905, ne906, ne907, ne908, w909, hs910, hw⟩ := hw
          exact (SqL.of h905)
        · intro i x T914 σ H913 hj n915 hw
          obtain ⟨self_893, vs894, L895, u896, u897, G925, rfl, eG926, S916, h917, h918, h919, ne920, ne921, ne922, w923, hs924, hw⟩ := hw
          obtain ⟨x927, hx928, r929⟩ := RpAll.get (RpAll.mono eG926 d773) hj
          generalize g930 : upd H913 T914 _ = H931
          obtain ⟨e932, h933⟩ := gen_new n915 g930
          have h934 : H931 T914 = some (.tup [V.int (((i : Nat) : Int)), x]) := h933
          have fr935 := S916.free n915
          obtain ⟨G937, eG938, hg939, S936⟩ := S916.grow n915 e932 h934 fr935
          have hw := cW_forS (enumL_get hx928) hw
          have hw : cW (F_MotionGrid_keep_b2 (column') (row') (self_893) ((((i : Nat) : Int), x927))) _ EE := hw
          unfold F_MotionGrid_keep_b2 at hw
          obtain ⟨K941, hK942, hw⟩ := cW_name hw
          have h944 := (e932 _ _ h917)
          have h945 := (e932 _ _ h918)
          have w946 : OwAll G937 H931 L895 (vs894) ((self_893.lines : (List (List PyData))).map (oL (oF encD))) := (OwAll.mono eG938 keeps_refl (OwAll.mono (Same.refl _) (keeps_same e932) w923))
          refine ⟨_, _, rfl, (SqT.of (S936.sG _ _ hg939)), rfl, _, _, rfl, _, _, rfl, rfl, _, rfl, _, _, _, rfl, h944, rfl, _, rfl, _, _, rfl, rfl, (.inl ⟨by decide, by decide⟩), _, rfl, _, _, rfl, rfl, (show (0 : Int) < 2 by decide), _, _, rfl, rfl, _, rfl, _, _, rfl, rfl, (.inl ⟨by decide, by decide⟩), _, rfl, _, _, rfl, rfl, (divW_lit (by decide) (by decide)), _, _, rfl, rfl, _, rfl, rfl, rfl, G937, _, _, _, _, L895, self_893, _, _, _, x927, rfl, S936.sG, (S936.gno (all_cons (.head _) (all_cons (.tail _ (.head _)) (all_app ((fun b hb => (.tail _ (.tail _ (.tail _ (List.mem_append_left _ hb))))) : ∀ b ∈ L895, b ∈ (p_self :: (l_self_lines :: (p764 :: (L895 ++ []))))) all_nil)))), h944, h945, w946, (ne920 : ∀ b ∈ L895, b ≠ p_self), (ne921 : ∀ b ∈ L895, b ≠ l_self_lines), (Rp.mono eG938 r929), cW_callN hw (fun v947 hw H951 G954 vs961 L962 x952 eG955 sG956 hn957 pm958 h959 h960 hs963 gl964 ne966 ne967 w965 => ?_) trivial⟩
          have S953 : Sep _ _ _ G954 H951 (L962 ++ (p_self :: (l_self_lines :: (p764 :: [])))) := Sep.mutgrow S936 x952 (all_cons (.head _) (all_cons (.tail _ (.head _)) (all_app ((fun b hb => (.tail _ (.tail _ (.tail _ (List.mem_append_left _ hb))))) : ∀ b ∈ L895, b ∈ (p_self :: (l_self_lines :: (p764 :: (L895 ++ []))))) all_nil))) pm958 eG955 sG956 hn957 (all_app (fun b hb => (hs963 b hb).elim (fun z => .inl ((((fun b hb => (.tail _ (.tail _ (.tail _ (List.mem_append_left _ hb))))) : ∀ b ∈ L895, b ∈ (p_self :: (l_self_lines :: (p764 :: (L895 ++ []))))) : ∀ b ∈ L895, b ∈ (p_self :: (l_self_lines :: (p764 :: (L895 ++ []))))) b z)) (fun z => .inr ⟨z, gl964 b hb, OwAll.there w965 b hb⟩)) (all_cons (.inl (.head _)) (all_cons (.inl (.tail _ (.head _))) (all_cons (.inl (.tail _ (.tail _ (.head _)))) all_nil))))
          have hw := cW_ok hw
          have hw := hK942 _ hw
          have h970 := (x952 _ _ (e932 _ _ h919) (nm_cons (ne_of_none h_p_self n765).symm (nm_cons (ne_of_none h_l_self_lines n765).symm (nm_app (fun z => ne922 _ z rfl) nm_nil))))
          exact ⟨(v947), (vs961), L962, _, _, _, rfl, (Same.trans (Same.trans eG926 eG938) eG955), (S953.sub (all_cons (List.mem_append_right _ (.head _)) (all_cons (List.mem_append_right _ (.tail _ (.head _))) (all_cons (List.mem_append_right _ (.tail _ (.tail _ (.head _)))) (all_app ((fun b hb => (List.mem_append_left _ hb)) : ∀ b ∈ L962, b ∈ (L962 ++ (p_self :: (l_self_lines :: (p764 :: []))))) all_nil))))), h959, h960, h970, ne966, ne967, (grown_ne hs963 (ne922 : ∀ b ∈ L895, b ≠ p764) (S936.ow _ (.tail _ (.tail _ (.head _)))).2.1), w965, ((fun b hb => (hs963 b hb).elim (((fun b hb => (hs924 b hb).elim (((fun b hb => .inl hb) : ∀ b ∈ L_self_lines, b ∈ L_self_lines ∨ H b = none) b) (fun z => .inr (S0.free z))) : ∀ b ∈ L895, b ∈ L_self_lines ∨ H b = none) b) (fun z => .inr (S936.free z))) : ∀ b ∈ L962, b ∈ L_self_lines ∨ H b = none), hw⟩
        · intro σ H971 hw
          obtain ⟨self_893, vs894, L895, u896, u897, G981, rfl, eG982, S972, h973, h974, h975, ne976, ne977, ne978, w979, hs980, hw⟩ := hw
          have hw := hK892 _ (cW_forS0 (by rw [enumL_len]; exact (by rw [(RpAll.mono eG982 d773).len, List.length_map])) hw)
          have hw : cW (F_MotionGrid_keep_r2  (self_893)) _ EE := hw
          unfold F_MotionGrid_keep_r2 at hw
          have hw := cW_ok hw
          exact hK0 _ hw _ _ _ L895 S972.base S972.g0 S972.sG S972.gn S972.pm h973 h974 ((fun b hb => (hs980 b hb).elim (((fun b hb => .inl hb) : ∀ b ∈ L_self_lines, b ∈ L_self_lines ∨ H b = none) b) (fun z => .inr (S0.free z))) : ∀ b ∈ L895, b ∈ L_self_lines ∨ H b = none) ((fun b hb => (S972.ow b (((fun b hb => (.tail _ (.tail _ (.tail _ (List.mem_append_left _ hb))))) : ∀ b ∈ L895, b ∈ (p_self :: (l_self_lines :: (p764 :: (L895 ++ []))))) b hb)).1) : ∀ b ∈ L895, G981 b = none) (ne976 : ∀ b ∈ L895, b ≠ p_self) (ne977 : ∀ b ∈ L895, b ≠ l_self_lines) w979
    | some motions_984 =>
      obtain ⟨a_motions, vs_motions, rfl, q_motions, d_motions⟩ := r_motions
      have hw := cW_optS hw
      have w986 : OwAll G H ([] : List Addr) (vs_motions) ((motions_984 : (List PyData)).map (oF encD)) := OwAll.mono (Same.refl _) (keeps_same S0.bM) (OwAll.frzs d_motions)
      refine ⟨_, rfl, ((encL encD) (motions_984)), rfl, (rp_mk_list (S0.bM _ _ q_motions) (OwAll.rpA w986 encO_F S0.sG)), _, rfl, ?_⟩
      refine iteF ?_
      have w987 : OwAll G H ([] : List Addr) (vs_motions) ((motions_984 : (List PyData)).map (oF encD)) := OwAll.mono (Same.refl _) (keeps_same S0.bM) (OwAll.frzs d_motions)
      refine ⟨_, rfl, _, rfl, _, _, _, rfl, (SqL.of (S0.bM _ _ q_motions)), (by rw [(OwAll.rpA w987 encO_F S0.sG).len, List.length_map]), _, _, rfl, rfl, _, rfl, ?_⟩
      refine iteD (fun c988 => ?_) (fun c988 => ?_)
      · have hw := cW_pos c988 hw
        obtain ⟨g989, hw⟩ := cW_grd hw
        have w990 : OwAll G H ([] : List Addr) (vs_motions) ((motions_984 : (List PyData)).map (oF encD)) := OwAll.mono (Same.refl _) (keeps_same S0.bM) (OwAll.frzs d_motions)
        have w991 : OwAll G H ([] : List Addr) (vs_motions) ((motions_984 : (List PyData)).map (oF encD)) := OwAll.mono (Same.refl _) (keeps_same S0.bM) (OwAll.frzs d_motions)
        refine ⟨_, rfl, _, _, _, rfl, rfl, (S0.bM _ _ q_motions), g989.1, g989.2.1, (rep_len (OwAll.rpA w990 encO_F S0.sG) g989.2.2), fun p992 n993 => ?_⟩
        generalize g994 : upd H p992 _ = H995
        obtain ⟨e996, h997⟩ := gen_new n993 g994
        have h998 : H995 p992 = some (.lst ((List.replicate (Int.toNat (4)) (vs_motions)).flatten)) := h997
        have fr999 := S0.free n993
        have S1000 := S0.new n993 e996 h998 fr999
        have d1001 : RpAll G ((List.replicate (Int.toNat (4)) (vs_motions)).flatten) ((repL (motions_984) (4) : (List PyData)).map encD) := rep_all (4) (OwAll.toFrzs w991)
        obtain ⟨K1004, hK1005, hw⟩ := cW_push hw
        refine ⟨_, rfl, _, _, rfl, (SqL.of h998), for_enum (K := K) (a := p992) (xs := (List.replicate (Int.toNat (4)) (vs_motions)).flatten) (fun i σ H' => ∃ (self_1006 : St_MotionGrid) (vs1007 : List V) (L1008 : List Addr) (u1009 : Option V) (u1010 : Option V) (G' : Hp), σ = [some (V.ref p_self), some (V.int (column')), some (V.int (row')), some (V.ref a_motions), some (V.ref a_motions), some (V.ref p992), u1009, u1010] ∧ Same G G' ∧ Sep (p_self :: (l_self_lines :: (L_self_lines ++ []))) H G G' H' (p_self :: (l_self_lines :: (p992 :: (L1008 ++ [])))) ∧ H' p_self = some (.ins AD.c_MotionGrid dx_self [("_width", V.int (self_1006.width)), ("_height", V.int (self_1006.height)), ("_lines", V.ref l_self_lines)]) ∧ H' l_self_lines = some (.lst (vs1007)) ∧ H' p992 = some (.lst ((List.replicate (Int.toNat (4)) (vs_motions)).flatten)) ∧ (∀ b ∈ L1008, b ≠ p_self) ∧ (∀ b ∈ L1008, b ≠ l_self_lines) ∧ (∀ b ∈ L1008, b ≠ p992) ∧ OwAll G' H' L1008 (vs1007) ((self_1006.lines : (List (List PyData))).map (oL (oF encD))) ∧ (∀ b ∈ L1008, b ∈ L_self_lines ∨ H b = none) ∧ cW (forS (List.drop i (enumL (repL (motions_984) (4)))) self_1006 (fun s x => F_MotionGrid_keep_b3 (column') (row') s x)) K1004 EE) ?_ ?_ ?_ ?_⟩
        · have h1011 := (e996 _ _ h_p_self)
          have h1012 := (e996 _ _ h_l_self_lines)
          have w1013 : OwAll G H995 L_self_lines (vs_self_lines) ((self'.lines : (List (List PyData))).map (oL (oF encD))) := (OwAll.mono (Same.refl _) (keeps_same e996) w_self_lines)
          exact ⟨(self'), (vs_self_lines), L_self_lines, _, _, _, rfl, (Same.refl _), (S1000.sub (all_cons (.tail _ (.head _)) (all_cons (.tail _ (.tail _ (.head _))) (all_cons (.head _) (all_app ((fun b hb => (.tail _ (.tail _ (.tail _ (List.mem_append_left _ hb))))) : ∀ b ∈ L_self_lines, b ∈ (p992 :: (p_self :: (l_self_lines :: (L_self_lines ++ []))))) all_nil))))), h1011, h1012, h998, nw_self_lines_0, nw_self_lines_1, (there_ne (fun b_ hb_ => (S0.ow b_ (((fun b hb => (.tail _ (.tail _ (List.mem_append_left _ hb)))) : ∀ b ∈ L_self_lines, b ∈ (p_self :: (l_self_lines :: (L_self_lines ++ [])))) b_ hb_)).2.1) n993), w1013, ((fun b hb => .inl hb) : ∀ b ∈ L_self_lines, b ∈ L_self_lines ∨ H b = none), hw⟩
        · intro i σ H1014 hw
          obtain ⟨self_1006, vs1007, L1008, u1009, u1010, G1024, rfl, eG1025, S1015, h1016, h1017, h1018, ne1019, ne1020, ne1021, w1022, hs1023, hw⟩ := hw
          exact (SqL.of h1018)
        · intro i x T1027 σ H1026 hj n1028 hw
          obtain ⟨self_1006, vs1007, L1008, u1009, u1010, G1038, rfl, eG1039, S1029, h1030, h1031, h1032, ne1033, ne1034, ne1035, w1036, hs1037, hw⟩ := hw
          obtain ⟨x1040, hx1041, r1042⟩ := RpAll.get (RpAll.mono eG1039 d1001) hj
          generalize g1043 : upd H1026 T1027 _ = H1044
          obtain ⟨e1045, h1046⟩ := gen_new n1028 g1043
          have h1047 : H1044 T1027 = some (.tup [V.int (((i : Nat) : Int)), x]) := h1046
          have fr1048 := S1029.free n1028
          obtain ⟨G1050, eG1051, hg1052, S1049⟩ := S1029.grow n1028 e1045 h1047 fr1048
          have hw := cW_forS (enumL_get hx1041) hw
          have hw : cW (F_MotionGrid_keep_b3 (column') (row') (self_1006) ((((i : Nat) : Int), x1040))) _ EE := hw
          unfold F_MotionGrid_keep_b3 at hw
          obtain ⟨K1054, hK1055, hw⟩ := cW_name hw
          have h1057 := (e1045 _ _ h1030)
          have h1058 := (e1045 _ _ h1031)
          have w1059 : OwAll G1050 H1044 L1008 (vs1007) ((self_1006.lines : (List (List PyData))).map (oL (oF encD))) := (OwAll.mono eG1051 keeps_refl (OwAll.mono (Same.refl _) (keeps_same e1045) w1036))
          refine ⟨_, _, rfl, (SqT.of (S1049.sG _ _ hg1052)), rfl, _, _, rfl, _, _, rfl, rfl, _, rfl, _, _, _, rfl, h1057, rfl, _, rfl, _, _, rfl, rfl, (.inl ⟨by decide, by decide⟩), _, rfl, _, _, rfl, rfl, (show (0 : Int) < 2 by decide), _, _, rfl, rfl, _, rfl, _, _, rfl, rfl, (.inl ⟨by decide, by decide⟩), _, rfl, _, _, rfl, rfl, (divW_lit (by decide) (by decide)), _, _, rfl, rfl, _, rfl, rfl, rfl, G1050, _, _, _, _, L1008, self_1006, _, _, _, x1040, rfl, S1049.sG, (S1049.gno (all_cons (.head _) (all_cons (.tail _ (.head _)) (all_app ((fun b hb => (.tail _ (.tail _ (.tail _ (List.mem_append_left _ hb))))) : ∀ b ∈ L1008, b ∈ (p_self :: (l_self_lines :: (p992 :: (L1008 ++ []))))) all_nil)))), h1057, h1058, w1059, (ne1033 : ∀ b ∈ L1008, b ≠ p_self), (ne1034 : ∀ b ∈ L1008, b ≠ l_self_lines), (Rp.mono eG1051 r1042), cW_callN hw (fun v1060 hw H1064 G1067 vs1074 L1075 x1065 eG1068 sG1069 hn1070 pm1071 h1072 h1073 hs1076 gl1077 ne1079 ne1080 w1078 => ?_) trivial⟩
          have S1066 : Sep _ _ _ G1067 H1064 (L1075 ++ (p_self :: (l_self_lines :: (p992 :: [])))) := Sep.mutgrow S1049 x1065 (all_cons (.head _) (all_cons (.tail _ (.head _)) (all_app ((fun b hb => (.tail _ (.tail _ (.tail _ (List.mem_append_left _ hb))))) : ∀ b ∈ L1008, b ∈ (p_self :: (l_self_lines :: (p992 :: (L1008 ++ []))))) all_nil))) pm1071 eG1068 sG1069 hn1070 (all_app (fun b hb => (hs1076 b hb).elim (fun z => .inl ((((fun b hb => (.tail _ (.tail _ (.tail _ (List.mem_append_left _ hb))))) : ∀ b ∈ L1008, b ∈ (p_self :: (l_self_lines :: (p992 :: (L1008 ++ []))))) : ∀ b ∈ L1008, b ∈ (p_self :: (l_self_lines :: (p992 :: (L1008 ++ []))))) b z)) (fun z => .inr ⟨z, gl1077 b hb, OwAll.there w1078 b hb⟩)) (all_cons (.inl (.head _)) (all_cons (.inl (.tail _ (.head _))) (all_cons (.inl (.tail _ (.tail _ (.head _)))) all_nil))))
          have hw := cW_ok hw
          have hw := hK1055 _ hw
          have h1083 := (x1065 _ _ (e1045 _ _ h1032) (nm_cons (ne_of_none h_p_self n993).symm (nm_cons (ne_of_none h_l_self_lines n993).symm (nm_app (fun z => ne1035 _ z rfl) nm_nil))))
          exact ⟨(v1060), (vs1074), L1075, _, _, _, rfl, (Same.trans (Same.trans eG1039 eG1051) eG1068), (S1066.sub (all_cons (List.mem_append_right _ (.head _)) (all_cons (List.mem_append_right _ (.tail _ (.head _))) (all_cons (List.mem_append_right _ (.tail _ (.tail _ (.head _)))) (all_app ((fun b hb => (List.mem_append_left _ hb)) : ∀ b ∈ L1075, b ∈ (L1075 ++ (p_self :: (l_self_lines :: (p992 :: []))))) all_nil))))), h1072, h1073, h1083, ne1079, ne1080, (grown_ne hs1076 (ne1035 : ∀ b ∈ L1008, b ≠ p992) (S1049.ow _ (.tail _ (.tail _ (.head _)))).2.1), w1078, ((fun b hb => (hs1076 b hb).elim (((fun b hb => (hs1037 b hb).elim (((fun b hb => .inl hb) : ∀ b ∈ L_self_lines, b ∈ L_self_lines ∨ H b = none) b) (fun z => .inr (S0.free z))) : ∀ b ∈ L1008, b ∈ L_self_lines ∨ H b = none) b) (fun z => .inr (S1049.free z))) : ∀ b ∈ L1075, b ∈ L_self_lines ∨ H b = none), hw⟩
        · intro σ H1084 hw
          obtain ⟨self_1006, vs1007, L1008, u1009, u1010, G1094, rfl, eG1095, S1085, h1086, h1087, h1088, ne1089, ne1090, ne1091, w1092, hs1093, hw⟩ := hw
          have hw := hK1005 _ (cW_forS0 (by rw [enumL_len]; exact (by rw [(RpAll.mono eG1095 d1001).len, List.length_map])) hw)
          have hw : cW (F_MotionGrid_keep_r3  (self_1006)) _ EE := hw
          unfold F_MotionGrid_keep_r3 at hw
          have hw := cW_ok hw
          exact hK0 _ hw _ _ _ L1008 S1085.base S1085.g0 S1085.sG S1085.gn S1085.pm h1086 h1087 ((fun b hb => (hs1093 b hb).elim (((fun b hb => .inl hb) : ∀ b ∈ L_self_lines, b ∈ L_self_lines ∨ H b = none) b) (fun z => .inr (S0.free z))) : ∀ b ∈ L1008, b ∈ L_self_lines ∨ H b = none) ((fun b hb => (S1085.ow b (((fun b hb => (.tail _ (.tail _ (.tail _ (List.mem_append_left _ hb))))) : ∀ b ∈ L1008, b ∈ (p_self :: (l_self_lines :: (p992 :: (L1008 ++ []))))) b hb)).1) : ∀ b ∈ L1008, G1094 b = none) (ne1089 : ∀ b ∈ L1008, b ≠ p_self) (ne1090 : ∀ b ∈ L1008, b ≠ l_self_lines) w1092
      · have hw := cW_neg c988 hw
        obtain ⟨K1099, hK1100, hw⟩ := cW_push hw
        refine ⟨_, rfl, _, rfl, _, _, rfl, (SqL.of (S0.bM _ _ q_motions)), for_enum (K := K) (a := a_motions) (xs := vs_motions) (fun i σ H' => ∃ (self_1101 : St_MotionGrid) (vs1102 : List V) (L1103 : List Addr) (u1104 : Option V) (u1105 : Option V) (G' : Hp), σ = [some (V.ref p_self), some (V.int (column')), some (V.int (row')), some (V.ref a_motions), some (V.ref a_motions), some (V.ref a_motions), u1104, u1105] ∧ Same G G' ∧ Sep (p_self :: (l_self_lines :: (L_self_lines ++ []))) H G G' H' (p_self :: (l_self_lines :: (L1103 ++ []))) ∧ H' p_self = some (.ins AD.c_MotionGrid dx_self [("_width", V.int (self_1101.width)), ("_height", V.int (self_1101.height)), ("_lines", V.ref l_self_lines)]) ∧ H' l_self_lines = some (.lst (vs1102)) ∧ (∀ b ∈ L1103, b ≠ p_self) ∧ (∀ b ∈ L1103, b ≠ l_self_lines) ∧ OwAll G' H' L1103 (vs1102) ((self_1101.lines : (List (List PyData))).map (oL (oF encD))) ∧ (∀ b ∈ L1103, b ∈ L_self_lines ∨ H b = none) ∧ cW (forS (List.drop i (enumL (motions_984))) self_1101 (fun s x => F_MotionGrid_keep_b4 (column') (row') s x)) K1099 EE) ?_ ?_ ?_ ?_⟩
        · exact ⟨(self'), (vs_self_lines), L_self_lines, _, _, _, rfl, (Same.refl _), (S0.sub (all_cons (.head _) (all_cons (.tail _ (.head _)) (all_app ((fun b hb => (.tail _ (.tail _ (List.mem_append_left _ hb)))) : ∀ b ∈ L_self_lines, b ∈ (p_self :: (l_self_lines :: (L_self_lines ++ [])))) all_nil)))), h_p_self, h_l_self_lines, nw_self_lines_0, nw_self_lines_1, w_self_lines, ((fun b hb => .inl hb) : ∀ b ∈ L_self_lines, b ∈ L_self_lines ∨ H b = none), hw⟩
        · intro i σ H1106 hw
          obtain ⟨self_1101, vs1102, L1103, u1104, u1105, G1114, rfl, eG1115, S1107, h1108, h1109, ne1110, ne1111, w1112, hs1113, hw⟩ := hw
          exact (SqL.of (S1107.bM _ _ q_motions))
        · intro i x T1117 σ H1116 hj n1118 hw
          obtain ⟨self_1101, vs1102, L1103, u1104, u1105, G1126, rfl, eG1127, S1119, h1120, h1121, ne1122, ne1123, w1124, hs1125, hw⟩ := hw
          have w1130 : OwAll G1126 H1116 ([] : List Addr) (vs_motions) ((motions_984 : (List PyData)).map (oF encD)) := OwAll.mono eG1127 (keeps_same S1119.bM) (OwAll.frzs d_motions)
          obtain ⟨x1128, L1131, hx1129, w1132, hs1133⟩ := OwAll.turn w1130 hj
          obtain ⟨z1135, r1134⟩ := Ow.toFrz w1132
          generalize g1136 : upd H1116 T1117 _ = H1137
          obtain ⟨e1138, h1139⟩ := gen_new n1118 g1136
          have h1140 : H1137 T1117 = some (.tup [V.int (((i : Nat) : Int)), x]) := h1139
          have fr1141 := S1119.free n1118
          obtain ⟨G1143, eG1144, hg1145, S1142⟩ := S1119.grow n1118 e1138 h1140 fr1141
          have hw := cW_forS (enumL_get hx1129) hw
          have hw : cW (F_MotionGrid_keep_b4 (column') (row') (self_1101) ((((i : Nat) : Int), x1128))) _ EE := hw
          unfold F_MotionGrid_keep_b4 at hw
          obtain ⟨K1147, hK1148, hw⟩ := cW_name hw
          have h1150 := (e1138 _ _ h1120)
          have h1151 := (e1138 _ _ h1121)
          have w1152 : OwAll G1143 H1137 L1103 (vs1102) ((self_1101.lines : (List (List PyData))).map (oL (oF encD))) := (OwAll.mono eG1144 keeps_refl (OwAll.mono (Same.refl _) (keeps_same e1138) w1124))
          refine ⟨_, _, rfl, (SqT.of (S1142.sG _ _ hg1145)), rfl, _, _, rfl, _, _, rfl, rfl, _, rfl, _, _, _, rfl, h1150, rfl, _, rfl, _, _, rfl, rfl, (.inl ⟨by decide, by decide⟩), _, rfl, _, _, rfl, rfl, (show (0 : Int) < 2 by decide), _, _, rfl, rfl, _, rfl, _, _, rfl, rfl, (.inl ⟨by decide, by decide⟩), _, rfl, _, _, rfl, rfl, (divW_lit (by decide) (by decide)), _, _, rfl, rfl, _, rfl, rfl, rfl, G1143, _, _, _, _, L1103, self_1101, _, _, _, x1128, rfl, S1142.sG, (S1142.gno (all_cons (.head _) (all_cons (.tail _ (.head _)) (all_app ((fun b hb => (.tail _ (.tail _ (List.mem_append_left _ hb)))) : ∀ b ∈ L1103, b ∈ (p_self :: (l_self_lines :: (L1103 ++ [])))) all_nil)))), h1150, h1151, w1152, (ne1122 : ∀ b ∈ L1103, b ≠ p_self), (ne1123 : ∀ b ∈ L1103, b ≠ l_self_lines), (Rp.mono eG1144 r1134), cW_callN hw (fun v1153 hw H1157 G1160 vs1167 L1168 x1158 eG1161 sG1162 hn1163 pm1164 h1165 h1166 hs1169 gl1170 ne1172 ne1173 w1171 => ?_) trivial⟩
          have S1159 : Sep _ _ _ G1160 H1157 (L1168 ++ (p_self :: (l_self_lines :: []))) := Sep.mutgrow S1142 x1158 (all_cons (.head _) (all_cons (.tail _ (.head _)) (all_app ((fun b hb => (.tail _ (.tail _ (List.mem_append_left _ hb)))) : ∀ b ∈ L1103, b ∈ (p_self :: (l_self_lines :: (L1103 ++ [])))) all_nil))) pm1164 eG1161 sG1162 hn1163 (all_app (fun b hb => (hs1169 b hb).elim (fun z => .inl ((((fun b hb => (.tail _ (.tail _ (List.mem_append_left _ hb)))) : ∀ b ∈ L1103, b ∈ (p_self :: (l_self_lines :: (L1103 ++ [])))) : ∀ b ∈ L1103, b ∈ (p_self :: (l_self_lines :: (L1103 ++ [])))) b z)) (fun z => .inr ⟨z, gl1170 b hb, OwAll.there w1171 b hb⟩)) (all_cons (.inl (.head _)) (all_cons (.inl (.tail _ (.head _))) all_nil)))
          have hw := cW_ok hw
          have hw := hK1148 _ hw
          exact ⟨(v1153), (vs1167), L1168, _, _, _, rfl, (Same.trans (Same.trans eG1127 eG1144) eG1161), (S1159.sub (all_cons (List.mem_append_right _ (.head _)) (all_cons (List.mem_append_right _ (.tail _ (.head _))) (all_app ((fun b hb => (List.mem_append_left _ hb)) : ∀ b ∈ L1168, b ∈ (L1168 ++ (p_self :: (l_self_lines :: [])))) all_nil)))), h1165, h1166, ne1172, ne1173, w1171, ((fun b hb => (hs1169 b hb).elim (((fun b hb => (hs1125 b hb).elim (((fun b hb => .inl hb) : ∀ b ∈ L_self_lines, b ∈ L_self_lines ∨ H b = none) b) (fun z => .inr (S0.free z))) : ∀ b ∈ L1103, b ∈ L_self_lines ∨ H b = none) b) (fun z => .inr (S1142.free z))) : ∀ b ∈ L1168, b ∈ L_self_lines ∨ H b = none), hw⟩
        · intro σ H1176 hw
          obtain ⟨self_1101, vs1102, L1103, u1104, u1105, G1184, rfl, eG1185, S1177, h1178, h1179, ne1180, ne1181, w1182, hs1183, hw⟩ := hw
          have w1186 : OwAll G1184 H1176 ([] : List Addr) (vs_motions) ((motions_984 : (List PyData)).map (oF encD)) := OwAll.mono eG1185 (keeps_same S1177.bM) (OwAll.frzs d_motions)
          have hw := hK1100 _ (cW_forS0 (by rw [enumL_len]; exact (by rw [(OwAll.rpA w1186 encO_F S1177.sG).len, List.length_map])) hw)
          have hw : cW (F_MotionGrid_keep_r4  (self_1101)) _ EE := hw
          unfold F_MotionGrid_keep_r4 at hw
          have hw := cW_ok hw
          exact hK0 _ hw _ _ _ L1103 S1177.base S1177.g0 S1177.sG S1177.gn S1177.pm h1178 h1179 ((fun b hb => (hs1183 b hb).elim (((fun b hb => .inl hb) : ∀ b ∈ L_self_lines, b ∈ L_self_lines ∨ H b = none) b) (fun z => .inr (S0.free z))) : ∀ b ∈ L1103, b ∈ L_self_lines ∨ H b = none) ((fun b hb => (S1177.ow b (((fun b hb => (.tail _ (.tail _ (List.mem_append_left _ hb)))) : ∀ b ∈ L1103, b ∈ (p_self :: (l_self_lines :: (L1103 ++ [])))) b hb)).1) : ∀ b ∈ L1103, G1184 b = none) (ne1180 : ∀ b ∈ L1103, b ≠ p_self) (ne1181 : ∀ b ∈ L1103, b ≠ l_self_lines) w1182

abbrev N__law_keep : List Str := ["actual", "grid", "cell", "columns", "rows", "draws", "column", "row", "kind", "motions", "given", "k", "kept"]
theorem sc__law_keep : FnScope N__law_keep ["actual", "grid", "cell", "columns", "rows"] (defScope s__law_keep) := ⟨rfl, rfl, rfl, by decide +kernel, rfl, by decide +kernel, by decide +kernel⟩
theorem ok__law_keep (D : DefX K mg "_law_keep" s__law_keep ["actual", "grid", "cell", "columns", "rows"] pats__law_keep) (T : Txt w K mg AD) (c__law_draws : CalX P w K mg base 1 "_law_draws" (sp__law_draws K AD) pats__law_draws) (c__law_motion : CalX P w K mg base 2 "_law_motion" (sp__law_motion K AD) pats__law_motion) (c_MotionGrid_keep_quarter : MetX P w K mg base 2 AD.c_MotionGrid "keep_quarter" (sp_MotionGrid_keep_quarter K AD) pats_MotionGrid_keep_quarter) (c_MotionGrid_keep : MetX P w K mg base 3 AD.c_MotionGrid "keep" (sp_MotionGrid_keep K AD) pats_MotionGrid_keep) : CalX P w K mg base 4 "_law_keep" (sp__law_keep K AD) pats__law_keep := by
  refine D.ok sc__law_keep (fun vs H Q E h => ?_) (fun f cdv A_ outer s H vs Q E hr h => ?_)
  · obtain ⟨G, p_actual, l_actual_lines, dx_actual, vs_actual_lines, L_actual_lines, actual', a_grid, vs_grid, L_grid, grid', cell', columns', rows', rfl, _⟩ := h
    rfl
  · obtain ⟨G, p_actual, l_actual_lines, dx_actual, vs_actual_lines, L_actual_lines, actual', a_grid, vs_grid, L_grid, grid', cell', columns', rows', rfl, sG, gM, h_p_actual, h_l_actual_lines, w_actual_lines, nw_actual_lines_0, nw_actual_lines_1, h_a_grid, w_grid, nw_grid_0, nx_0, nx_1, nx_2, nx_3, nx_4, nx_5, hw⟩ := h
    refine ⟨_, (pss_cons (ps_set (i := 5) sc__law_keep.nd rfl (Or.inr rfl) (vx_callX c__law_draws pat__law_draws_0 (.head _) hr (by decide) (takes_of rfl rfl rfl rfl) rfl (pa_cons (pv 2) (pa_cons (pe_lst (pa_cons pe_int (pa_cons pe_int (pa_cons pe_int (pa_cons pe_int (pa_cons pe_int (pa_cons pe_int (pa_cons (pe_op op_pow pe_int pe_int) (pa_cons (pe_op op_pow pe_int pe_int) (pa_cons (pe_op op_pow pe_int pe_int) (pa_cons (pe_op op_pow pe_int pe_int) pa_nil))))))))))) pa_nil)) pk_nil))
      (pss_cons (ps_set (i := 6) sc__law_keep.nd rfl (Or.inl rfl) (pe_op op_mod (pe_callTy call_int1 (by rfl) T.b_int (by decide +kernel) (pa_cons (pe_ix (ix_listK (K := K)) (pv 5) pe_int (fun _ _ => rfl)) pa_nil)) (pv 3)))
      (pss_cons (ps_set (i := 7) sc__law_keep.nd rfl (Or.inl rfl) (pe_op op_mod (pe_callTy call_int1 (by rfl) T.b_int (by decide +kernel) (pa_cons (pe_ix (ix_listK (K := K)) (pv 5) pe_int (fun _ _ => rfl)) pa_nil)) (pv 4)))
      (pss_cons (ps_set (i := 8) sc__law_keep.nd rfl (Or.inr rfl) (pe_op op_add pe_int (pe_ix (ix_listK (K := K)) (pv 5) pe_int (fun _ _ => rfl))))
      (pss_cons (ps_setLc (i := 9) (y := "motions") rfl sc__law_keep.nd rfl rfl (sw_true rfl rfl rfl (by decide +kernel)) (own := [("k", 11)]) (g := gName 11) (pi_range1 rfl T.b_range (pa_cons pe_int pa_nil)) (blkOk_by (own := [("k", 11)]) (N := N__law_keep) (sc := defScope s__law_keep) (by decide +kernel)) (fun _ _ _ _ _ => (pg_name (i := 11) sc__law_keep.nd rfl (Or.inl rfl))) (fun _ _ _ _ _ => pts_nil) (fun _ _ _ _ _ => (vx_callX c__law_motion pat__law_motion_0 (.head _) hr (by decide) takes0 rfl (pa_cons (pe_ix (ix_listK (K := K)) (pv 5) (pe_op op_add pe_int (pv 11)) (fun _ _ => rfl)) (pa_cons (pv 8) (pa_cons pe_int pa_nil))) pk_nil)))
      (pss_cons (ps_if (pt_cmp (pc_eqI (pe_ix (ix_listK (K := K)) (pv 5) pe_int (fun _ _ => rfl)) pe_int)) (pss_cons (ps_expr (vx_methX c_MotionGrid_keep_quarter pat_MotionGrid_keep_quarter_0 (.head _) hr (by decide) (takes_of rfl rfl rfl rfl) (pv 0) (pa_cons (pe_op op_add (pe_op op_mul pe_int (pv 6)) (pe_ix (ix_listK (K := K)) (pv 5) pe_int (fun _ _ => rfl))) (pa_cons (pe_op op_add (pe_op op_mul pe_int (pv 7)) (pe_ix (ix_listK (K := K)) (pv 5) pe_int (fun _ _ => rfl))) (pa_cons (pe_ix (ix_listK (K := K)) (pv 9) pe_int (fun _ _ => rfl)) pa_nil))) pk_nil))
      (pss_cons (ps_asg (pe_ix (ix_listK (K := K)) (pv 9) pe_int (fun _ _ => rfl)) (pg_sub (pe_ix (ix_listK (K := K)) (pv 1) (pe_op op_add (pe_op op_mul pe_int (pv 7)) (pe_ix (ix_listK (K := K)) (pv 5) pe_int (fun _ _ => rfl))) (fun _ _ => rfl)) (pe_op op_add (pe_op op_mul pe_int (pv 6)) (pe_ix (ix_listK (K := K)) (pv 5) pe_int (fun _ _ => rfl))) set_list))
      (pss_one (ps_ret pe_bl)))) pss_nil)
      (pss_cons (ps_set (i := 10) sc__law_keep.nd rfl (Or.inl rfl) (pe_ix (ix_listK (K := K)) (pe_lst (pa_cons pe_non (pa_cons (pe_slice (sl_listK (K := K)) (pv 9) po_none (po_some pe_int)) (pa_cons (pv 9) pa_nil)))) (pe_ix (ix_listK (K := K)) (pv 5) pe_int (fun _ _ => rfl)) (fun _ _ => rfl)))
      (pss_cons (ps_for (passes_of rfl) rfl (pi_range1 rfl T.b_range (pa_cons pe_int pa_nil)) (pg_name (i := 11) sc__law_keep.nd rfl (Or.inl rfl)) (pss_cons (ps_set (i := 12) sc__law_keep.nd rfl (Or.inl rfl) (pe_ix (ix_listK (K := K)) (pe_lst (pa_cons pe_non (pa_cons (pe_ix (ix_listK (K := K)) (pv 9) pe_int (fun _ _ => rfl)) (pa_cons (pe_ix (ix_listK (K := K)) (pv 9) (pv 11) (fun _ _ => rfl)) pa_nil)))) (pe_ix (ix_listK (K := K)) (pv 5) pe_int (fun _ _ => rfl)) (fun _ _ => rfl)))
      (pss_one (ps_asg (pv 12) (pg_sub (pe_ix (ix_listK (K := K)) (pv 1) (pe_op op_add (pe_op op_mul pe_int (pv 7)) (pe_op op_fdivW (pv 11) pe_int)) (fun _ _ => rfl)) (pe_op op_add (pe_op op_mul pe_int (pv 6)) (pe_op op_mod (pe_callTy call_int1 (by rfl) T.b_int (by decide +kernel) (pa_cons (pv 11) pa_nil)) pe_int)) set_list)))))
      (pss_cons (ps_expr (vx_methX c_MotionGrid_keep pat_MotionGrid_keep_0 (.head _) hr (by decide) (takes_of rfl rfl rfl rfl) (pv 0) (pa_cons (pv 6) (pa_cons (pv 7) (pa_cons (pv 10) pa_nil))) pk_nil))
      (C8.pss_cut (ps_if (pt_cmpR op_notND (pv 10) pe_non (nomark _)) (pss_cons (ps_expr (pe_bm PySem.F.plainAttrs_list PySem.F.slot_list_append PySem.F.type_list_append mt_append (pv 10) (pa_cons pe_non pa_nil)))
      (pss_one (ps_asg (pe_tup (pa_cons pe_int (pa_cons pe_int (pa_cons (pe_tup (pa_cons pe_int (pa_cons pe_int pa_nil))) (pa_cons pe_non pa_nil))))) (pg_sub (pv 10) pe_int set_list)))) pss_nil)
      (pss_one (ps_ret pe_bl)))))))))))), ?_⟩
    obtain ⟨KK, EE, hK0, hE, hw⟩ := cW_gen hw
    have S0 := Sep.startM (M := (p_actual :: (l_actual_lines :: (L_actual_lines ++ (a_grid :: (L_grid ++ [])))))) sG (all_cons (some_ne h_p_actual) (all_cons (some_ne h_l_actual_lines) (all_app (OwAll.there w_actual_lines) (all_cons (some_ne h_a_grid) (all_app (OwAll.there w_grid) all_nil))))) gM
    unfold F__law_keep at hw
    refine ⟨_, rfl, _, _, rfl, rfl, ⟨by decide, by decide, by decide⟩, _, _, rfl, rfl, ⟨by decide, by decide, by decide⟩, _, _, rfl, rfl, ⟨by decide, by decide, by decide⟩, _, _, rfl, rfl, ⟨by decide, by decide, by decide⟩, (by show 10 ≤ sizeLine; decide), fun p1188 n1189 => ?_⟩
    generalize g1190 : upd H p1188 _ = H1191
    obtain ⟨e1192, h1193⟩ := gen_new n1189 g1190
    have h1194 : H1191 p1188 = some (.lst (([4, 4, 4, 2, 2, 2, 1000000000, 1000000000, 1000000000, 1000000000] : (List Int)).map V.int)) := h1193
    have fr1195 := S0.free n1189
    have S1196 := S0.new n1189 e1192 h1194 fr1195
    refine ⟨rfl, rfl, G, _, _, _, rfl, S1196.sG, (hide_nil h1194), cW_call hw (fun v1197 hw p1200 H1198 n1201 e1199 h1202 => ?_) (fun e he H2 e2 => hE e he H2 (Same.trans e1192 e2))⟩
    have h1203 : H1198 p1200 = some (.lst ((v1197 : (List Int)).map V.int)) := h1202
    have fr1204 := S1196.free n1201
    have S1205 := S1196.new n1201 e1199 h1203 fr1204
    obtain ⟨g1206, hw⟩ := cW_grd hw
    refine ⟨_, rfl, _, _, _, _, rfl, rfl, (SqL.of h1203), (atI_map g1206), .inl ⟨_, rfl, ?_⟩⟩
    obtain ⟨g1207, hw⟩ := cW_grd hw
    refine ⟨_, rfl, _, _, rfl, rfl, g1207, ?_⟩
    have hw := cW_bnd hw
    obtain ⟨g1209, hw⟩ := cW_grd hw
    refine ⟨_, rfl, _, _, _, _, rfl, rfl, (SqL.of h1203), (atI_map g1209), .inl ⟨_, rfl, ?_⟩⟩
    obtain ⟨g1210, hw⟩ := cW_grd hw
    refine ⟨_, rfl, _, _, rfl, rfl, g1210, ?_⟩
    have hw := cW_bnd hw
    obtain ⟨g1212, hw⟩ := cW_grd hw
    refine ⟨_, rfl, _, _, _, _, rfl, rfl, (SqL.of h1203), (atI_map g1212), _, _, rfl, rfl, ?_⟩
    have hw := cW_bnd hw
    obtain ⟨K1217, hK1218, hw⟩ := cW_push hw
    refine ⟨_, rfl, (by decide), (by decide), fun D1219 n1220 => lc_range (lo := 0) (n := Int.toNat (4)) (fun i H' => ∃ (G' : Hp) (acc1222 : (List PyData)) (vs1223 : List V), Same G G' ∧ Sep (p_actual :: (l_actual_lines :: (L_actual_lines ++ (a_grid :: (L_grid ++ []))))) H G G' H' (D1219 :: (a_grid :: (p_actual :: (l_actual_lines :: (p1200 :: (L_grid ++ (L_actual_lines ++ []))))))) ∧ H' a_grid = some (.lst (vs_grid)) ∧ H' p_actual = some (.ins AD.c_MotionGrid dx_actual [("_width", V.int (actual'.width)), ("_height", V.int (actual'.height)), ("_lines", V.ref l_actual_lines)]) ∧ H' l_actual_lines = some (.lst (vs_actual_lines)) ∧ H' p1200 = some (.lst ((v1197 : (List Int)).map V.int)) ∧ H' D1219 = some (.lst vs1223) ∧ OwAll G' H' L_grid (vs_grid) ((grid' : (List (List PyData))).map (oL (oF encD))) ∧ OwAll G' H' L_actual_lines (vs_actual_lines) ((actual'.lines : (List (List PyData))).map (oL (oF encD))) ∧ RpAll G' vs1223 ((acc1222 : (List PyData)).map encD) ∧ Same H1198 H' ∧ cW (mapA (List.drop i (rng (0) (Int.toNat (4)))) acc1222 (fun x => noEr (F__law_keep_c1 (v1197) ((1 + (itD (v1197) (3)))) x))) K1217 EE) ?_ ?_ ?_⟩
    · generalize g1224 : upd H1198 D1219 _ = H1225
      obtain ⟨e1226, h1227⟩ := gen_new n1220 g1224
      have fr1228 := S1205.free n1220
      have S1229 := S1205.new n1220 e1226 h1227 fr1228
      have h1230 := (e1226 _ _ (e1199 _ _ (e1192 _ _ h_a_grid)))
      have h1231 := (e1226 _ _ (e1199 _ _ (e1192 _ _ h_p_actual)))
      have h1232 := (e1226 _ _ (e1199 _ _ (e1192 _ _ h_l_actual_lines)))
      have h1233 := (e1226 _ _ h1203)
      have w1234 : OwAll G H1225 L_grid (vs_grid) ((grid' : (List (List PyData))).map (oL (oF encD))) := (OwAll.mono (Same.refl _) (keeps_same e1226) (OwAll.mono (Same.refl _) (keeps_same e1199) (OwAll.mono (Same.refl _) (keeps_same e1192) w_grid)))
      have w1235 : OwAll G H1225 L_actual_lines (vs_actual_lines) ((actual'.lines : (List (List PyData))).map (oL (oF encD))) := (OwAll.mono (Same.refl _) (keeps_same e1226) (OwAll.mono (Same.refl _) (keeps_same e1199) (OwAll.mono (Same.refl _) (keeps_same e1192) w_actual_lines)))
      exact ⟨_, [], [], Same.refl _, (S1229.sub (all_cons (.head _) (all_cons (.tail _ (.tail _ (.tail _ (.tail _ (.tail _ (List.mem_append_right _ (.head _))))))) (all_cons (.tail _ (.tail _ (.tail _ (.head _)))) (all_cons (.tail _ (.tail _ (.tail _ (.tail _ (.head _))))) (all_cons (.tail _ (.head _)) (all_app ((fun b hb => (.tail _ (.tail _ (.tail _ (.tail _ (.tail _ (List.mem_append_right _ (.tail _ (List.mem_append_left _ hb))))))))) : ∀ b ∈ L_grid, b ∈ (D1219 :: (p1200 :: (p1188 :: (p_actual :: (l_actual_lines :: (L_actual_lines ++ (a_grid :: (L_grid ++ []))))))))) (all_app ((fun b hb => (.tail _ (.tail _ (.tail _ (.tail _ (.tail _ (List.mem_append_left _ hb))))))) : ∀ b ∈ L_actual_lines, b ∈ (D1219 :: (p1200 :: (p1188 :: (p_actual :: (l_actual_lines :: (L_actual_lines ++ (a_grid :: (L_grid ++ []))))))))) all_nil)))))))), h1230, h1231, h1232, h1233, h1227, w1234, w1235, RpAll.nil, e1226, hw⟩
    · intro i H1236 hi hw
      obtain ⟨G1239, acc1241, vs1242, eG1240, S1237, h1248, h1249, h1250, h1251, h1238, w1252, w1253, d1243, eo1247, hw⟩ := hw
      obtain ⟨z1254, hw⟩ := cW_mapA (rng_get hi) hw
      generalize (0 + (i : Int)) = x1255 at hw ⊢
      have hw := cW_noEr hw
      have hw : cW (F__law_keep_c1 (v1197) ((1 + (itD (v1197) (3)))) (x1255)) _ (fun _ => False) := hw
      unfold F__law_keep_c1 at hw
      refine ⟨rfl, ?_⟩
      refine tyes_go ?_
      obtain ⟨g1257, hw⟩ := cW_grd hw
      refine ⟨_, rfl, _, rfl, _, _, rfl, rfl, _, _, _, _, rfl, rfl, (SqL.of h1251), (atI_map g1257), _, rfl, rfl, rfl, G1239, _, _, _, rfl, S1237.sG, cW_call hw (fun v1258 hw v1261 H1259 G1262 e1260 eG1263 sG1264 hn1265 r1266 => ?_) (fun e he => he.elim)⟩
      have S1267 := S1237.step e1260 eG1263 sG1264 hn1265
      have h1268 := (e1260 _ _ h1238)
      refine ⟨_, h1268, (app_len (RpAll.mono eG1263 d1243) z1254), ?_⟩
      generalize g1269 : upd H1259 D1219 _ = H1270
      obtain ⟨x1271, h1272⟩ := gen_mut g1269
      have S1273 := S1267.mut1 x1271 (.head _) h1272
      have hw := cW_ok hw
      have h1274 := (x1271 _ _ (e1260 _ _ h1248) (ne_of_none (e1199 _ _ (e1192 _ _ h_a_grid)) n1220))
      have h1275 := (x1271 _ _ (e1260 _ _ h1249) (ne_of_none (e1199 _ _ (e1192 _ _ h_p_actual)) n1220))
      have h1276 := (x1271 _ _ (e1260 _ _ h1250) (ne_of_none (e1199 _ _ (e1192 _ _ h_l_actual_lines)) n1220))
      have h1277 := (x1271 _ _ (e1260 _ _ h1251) (ne_of_none h1203 n1220))
      have w1278 : OwAll G1262 H1270 L_grid (vs_grid) ((grid' : (List (List PyData))).map (oL (oF encD))) := (OwAll.mono eG1263 keeps_refl (OwAll.mono (Same.refl _) (keeps_mut x1271 ((there_ne (fun b_ hb_ => (S1205.ow b_ (((fun b hb => (.tail _ (.tail _ (.tail _ (.tail _ (List.mem_append_right _ (.tail _ (List.mem_append_left _ hb)))))))) : ∀ b ∈ L_grid, b ∈ (p1200 :: (p1188 :: (p_actual :: (l_actual_lines :: (L_actual_lines ++ (a_grid :: (L_grid ++ [])))))))) b_ hb_)).2.1) n1220) : ∀ b ∈ L_grid, b ≠ D1219)) (OwAll.mono (Same.refl _) (keeps_same e1260) w1252)))
      have w1279 : OwAll G1262 H1270 L_actual_lines (vs_actual_lines) ((actual'.lines : (List (List PyData))).map (oL (oF encD))) := (OwAll.mono eG1263 keeps_refl (OwAll.mono (Same.refl _) (keeps_mut x1271 ((there_ne (fun b_ hb_ => (S1205.ow b_ (((fun b hb => (.tail _ (.tail _ (.tail _ (.tail _ (List.mem_append_left _ hb)))))) : ∀ b ∈ L_actual_lines, b ∈ (p1200 :: (p1188 :: (p_actual :: (l_actual_lines :: (L_actual_lines ++ (a_grid :: (L_grid ++ [])))))))) b_ hb_)).2.1) n1220) : ∀ b ∈ L_actual_lines, b ≠ D1219)) (OwAll.mono (Same.refl _) (keeps_same e1260) w1253)))
      exact ⟨_, (acc1241 ++ [v1258]), _, (Same.trans eG1240 eG1263), S1273, h1274, h1275, h1276, h1277, h1272, w1278, w1279, (app_map (RpAll.mono eG1263 d1243) (RpAll.one r1266)), (same_mut (Same.trans eo1247 e1260) x1271 n1220), hw⟩
    intro H1280 hw
    obtain ⟨G1283, acc1285, vs1286, eG1284, S1281, h1292, h1293, h1294, h1295, h1282, w1296, w1297, d1287, eo1291, hw⟩ := hw
    have hw := hK1218 _ (cW_mapA0 (rng_len _ _).symm hw)
    have fr1298 := S1205.free n1220
    obtain ⟨g1299, hw⟩ := cW_grd hw
    refine ⟨_, rfl, _, _, _, _, rfl, rfl, (SqL.of h1295), (atI_map g1299), _, _, rfl, rfl, _, rfl, ?_⟩
    refine iteD (fun c1300 => ?_) (fun c1300 => ?_)
    · have hw := cW_pos c1300 hw
      obtain ⟨g1301, hw⟩ := cW_grd hw
      obtain ⟨g1302, hw⟩ := cW_grd hw
      obtain ⟨g1303, hw⟩ := cW_grd hw
      obtain ⟨v1304, a1305, r1306⟩ := RpAll.ixD (k := 0) d1287 g1303
      refine ⟨_, rfl, _, _, _, rfl, h1293, rfl, _, rfl, _, _, rfl, rfl, (.inl ⟨by decide, by decide⟩), _, rfl, _, _, _, _, rfl, rfl, (SqL.of h1295), (atI_map g1301), _, _, rfl, rfl, _, rfl, _, _, rfl, rfl, (.inl ⟨by decide, by decide⟩), _, rfl, _, _, _, _, rfl, rfl, (SqL.of h1295), (atI_map g1302), _, _, rfl, rfl, _, rfl, _, _, _, _, rfl, rfl, (SqL.of h1282), a1305, rfl, rfl, G1283, _, _, _, _, L_actual_lines, actual', _, _, _, (itD (acc1285) (0)), rfl, S1281.sG, (S1281.gno (all_cons (.tail _ (.tail _ (.head _))) (all_cons (.tail _ (.tail _ (.tail _ (.head _)))) (all_app ((fun b hb => (.tail _ (.tail _ (.tail _ (.tail _ (.tail _ (List.mem_append_right _ (List.mem_append_left _ hb)))))))) : ∀ b ∈ L_actual_lines, b ∈ (D1219 :: (a_grid :: (p_actual :: (l_actual_lines :: (p1200 :: (L_grid ++ (L_actual_lines ++ [])))))))) all_nil)))), h1293, h1294, w1297, (nw_actual_lines_0 : ∀ b ∈ L_actual_lines, b ≠ p_actual), (nw_actual_lines_1 : ∀ b ∈ L_actual_lines, b ≠ l_actual_lines), r1306, cW_call hw (fun v1307 hw H1311 G1314 vs1321 L1322 x1312 eG1315 sG1316 hn1317 pm1318 h1319 h1320 hs1323 gl1324 ne1326 ne1327 w1325 => ?_) (fun e he H2 e2 => hE e he H2 (Same.trans (Same.trans (Same.trans e1192 e1199) eo1291) e2))⟩
      have S1313 : Sep _ _ _ G1314 H1311 (L1322 ++ (D1219 :: (a_grid :: (p_actual :: (l_actual_lines :: (p1200 :: (L_grid ++ []))))))) := Sep.mutgrow S1281 x1312 (all_cons (.tail _ (.tail _ (.head _))) (all_cons (.tail _ (.tail _ (.tail _ (.head _)))) (all_app ((fun b hb => (.tail _ (.tail _ (.tail _ (.tail _ (.tail _ (List.mem_append_right _ (List.mem_append_left _ hb)))))))) : ∀ b ∈ L_actual_lines, b ∈ (D1219 :: (a_grid :: (p_actual :: (l_actual_lines :: (p1200 :: (L_grid ++ (L_actual_lines ++ [])))))))) all_nil))) pm1318 eG1315 sG1316 hn1317 (all_app (fun b hb => (hs1323 b hb).elim (fun z => .inl ((((fun b hb => (.tail _ (.tail _ (.tail _ (.tail _ (.tail _ (List.mem_append_right _ (List.mem_append_left _ hb)))))))) : ∀ b ∈ L_actual_lines, b ∈ (D1219 :: (a_grid :: (p_actual :: (l_actual_lines :: (p1200 :: (L_grid ++ (L_actual_lines ++ [])))))))) : ∀ b ∈ L_actual_lines, b ∈ (D1219 :: (a_grid :: (p_actual :: (l_actual_lines :: (p1200 :: (L_grid ++ (L_actual_lines ++ [])))))))) b z)) (fun z => .inr ⟨z, gl1324 b hb, OwAll.there w1325 b hb⟩)) (all_cons (.inl (.head _)) (all_cons (.inl (.tail _ (.head _))) (all_cons (.inl (.tail _ (.tail _ (.head _)))) (all_cons (.inl (.tail _ (.tail _ (.tail _ (.head _))))) (all_cons (.inl (.tail _ (.tail _ (.tail _ (.tail _ (.head _)))))) (all_app (fun b hb => .inl (((fun b hb => (.tail _ (.tail _ (.tail _ (.tail _ (.tail _ (List.mem_append_left _ hb))))))) : ∀ b ∈ L_grid, b ∈ (D1219 :: (a_grid :: (p_actual :: (l_actual_lines :: (p1200 :: (L_grid ++ (L_actual_lines ++ [])))))))) b hb)) all_nil)))))))
      obtain ⟨g1330, hw⟩ := cW_grd hw
      obtain ⟨v1331, a1332, r1333⟩ := RpAll.ixD (k := 0) (RpAll.mono eG1315 d1287) g1330
      have h1334 := (x1312 _ _ h1282 (nm_cons (ne_of_none (e1199 _ _ (e1192 _ _ h_p_actual)) n1220).symm (nm_cons (ne_of_none (e1199 _ _ (e1192 _ _ h_l_actual_lines)) n1220).symm (nm_app (fun z => (there_ne (fun b_ hb_ => (S1205.ow b_ (((fun b hb => (.tail _ (.tail _ (.tail _ (.tail _ (List.mem_append_left _ hb)))))) : ∀ b ∈ L_actual_lines, b ∈ (p1200 :: (p1188 :: (p_actual :: (l_actual_lines :: (L_actual_lines ++ (a_grid :: (L_grid ++ [])))))))) b_ hb_)).2.1) n1220) _ z rfl) nm_nil))))
      refine ⟨_, rfl, _, _, _, _, rfl, rfl, (SqL.of h1334), a1332, ?_⟩
      obtain ⟨g1335, hw⟩ := cW_grd hw
      have h1336 := (x1312 _ _ h1295 (nm_cons (ne_of_none (e1192 _ _ h_p_actual) n1201).symm (nm_cons (ne_of_none (e1192 _ _ h_l_actual_lines) n1201).symm (nm_app (fun z => (there_ne (fun b_ hb_ => (S1196.ow b_ (((fun b hb => (.tail _ (.tail _ (.tail _ (List.mem_append_left _ hb))))) : ∀ b ∈ L_actual_lines, b ∈ (p1188 :: (p_actual :: (l_actual_lines :: (L_actual_lines ++ (a_grid :: (L_grid ++ []))))))) b_ hb_)).2.1) n1201) _ z rfl) nm_nil))))
      obtain ⟨g1337, hw⟩ := cW_grd hw
      have w1338 : OwAll G1314 H1311 L_grid (vs_grid) ((grid' : (List (List PyData))).map (oL (oF encD))) := (OwAll.mono eG1315 keeps_refl (OwAll.mono (Same.refl _) (keeps_muts x1312 ((fun b hb => (nm_cons (nx_1 b hb) (nm_cons (nx_3 b hb) (nm_app ((fun b hb => ((nl_symm nx_5) b hb)) b hb) nm_nil)))) : ∀ b ∈ L_grid, b ∉ (p_actual :: (l_actual_lines :: (L_actual_lines ++ []))))) w1296))
      obtain ⟨v1339, L1340, a1341, w1342, hs1343, up1344, gr1345⟩ := OwAll.partM (k := ((2 * ((itD (v1197) (2)) % rows')) + (itD (v1197) (5)))) w1338 g1337
      have h1346 := (x1312 _ _ h1292 (nm_cons (nx_0).symm (nm_cons (nx_2).symm (nm_app (fun z => nx_4 _ z rfl) nm_nil))))
      obtain ⟨b1347, vs1348, L1349, rfl, rfl, h1350, w1351, nb1352⟩ := Ow.toList w1342
      obtain ⟨g1353, hw⟩ := cW_grd hw
      obtain ⟨g1354, hw⟩ := cW_grd hw
      refine ⟨_, rfl, _, rfl, _, _, rfl, rfl, (.inl ⟨by decide, by decide⟩), _, rfl, _, _, _, _, rfl, rfl, (SqL.of h1336), (atI_map g1335), _, _, rfl, rfl, _, _, _, _, rfl, rfl, (SqL.of h1346), a1341, _, rfl, _, _, rfl, rfl, (.inl ⟨by decide, by decide⟩), _, rfl, _, _, _, _, rfl, rfl, (SqL.of h1336), (atI_map g1353), _, _, rfl, rfl, _, _, _, _, rfl, rfl, h1350, (ixN_len w1351.lenM g1354), ?_⟩
      obtain ⟨L1355, hL1356, w1357⟩ := OwAll.setM w1351 g1354 (Ow.frz r1333) (all_nil : ∀ b ∈ ([] : List Addr), b ∉ L1349)
      generalize g1359 : upd H1311 b1347 _ = H1360
      obtain ⟨x1361, h1362⟩ := gen_mut g1359
      have h1363 : H1360 b1347 = some (.lst ((vs1348).set ((ixN (vs1348).length (((2 * ((itD (v1197) (1)) % columns')) + (itD (v1197) (4))))).getD 0) (v1331))) := h1362
      have S1364 := S1313.mut1 x1361 ((((fun b hb => (List.mem_append_right _ (.tail _ (.tail _ (.tail _ (.tail _ (.tail _ (List.mem_append_left _ hb)))))))) : ∀ b ∈ L_grid, b ∈ (L1322 ++ (D1219 :: (a_grid :: (p_actual :: (l_actual_lines :: (p1200 :: (L_grid ++ [])))))))) : ∀ b ∈ L_grid, b ∈ (L1322 ++ (D1219 :: (a_grid :: (p_actual :: (l_actual_lines :: (p1200 :: (L_grid ++ [])))))))) _ (hs1343 _ List.mem_cons_self)) h1363
      have w1358 : OwAll G1314 H1360 L1355 ((vs1348).set ((ixN (vs1348).length (((2 * ((itD (v1197) (1)) % columns')) + (itD (v1197) (4))))).getD 0) (v1331)) ((setL ((itD (grid') (((2 * ((itD (v1197) (2)) % rows')) + (itD (v1197) (5)))))) (((2 * ((itD (v1197) (1)) % columns')) + (itD (v1197) (4)))) ((itD (acc1285) (0))) : (List PyData)).map (oF encD)) := OwAll.mono (Same.refl _) (keeps_mut x1361 ((fun b hb => ((all_app nb1352 all_nil) : ∀ b ∈ (L1349 ++ ([] : List Addr)), b ≠ b1347) b (hL1356 b hb)) : ∀ b ∈ L1355, b ≠ b1347)) w1357
      obtain ⟨L1365, hL1366, w1367⟩ := gr1345 H1360 _ ([] : List Addr) (b1347 :: L1355) (grow_keeps (Same.refl _) x1361 List.mem_cons_self) (grow_sub hL1356) (all_nil : ∀ b ∈ ([] : List Addr), b ∉ L_grid) (Ow.list h1363 w1358 ((fun b hb => ((all_app nb1352 all_nil) : ∀ b ∈ (L1349 ++ ([] : List Addr)), b ≠ b1347) b (hL1356 b hb)) : ∀ b ∈ L1355, b ≠ b1347))
      have w1368 : OwAll G1314 H1360 L1365 (vs_grid) ((setL (grid') (((2 * ((itD (v1197) (2)) % rows')) + (itD (v1197) (5)))) (setL ((itD (grid') (((2 * ((itD (v1197) (2)) % rows')) + (itD (v1197) (5)))))) (((2 * ((itD (v1197) (1)) % columns')) + (itD (v1197) (4)))) ((itD (acc1285) (0)))) : (List (List PyData))).map (oL (oF encD))) := w1367
      have hw := cW_bnd hw
      have h1370 := (x1361 _ _ h1319 (nx_1 _ (hs1343 _ List.mem_cons_self)).symm)
      have h1371 := (x1361 _ _ h1320 (nx_3 _ (hs1343 _ List.mem_cons_self)).symm)
      have h1372 := (x1361 _ _ h1346 (nw_grid_0 _ (hs1343 _ List.mem_cons_self)).symm)
      have w1373 : OwAll G1314 H1360 L1322 (vs1321) ((v1307.lines : (List (List PyData))).map (oL (oF encD))) := (OwAll.mono (Same.refl _) (keeps_mut x1361 ((fun b hb z => (fun b hb => ((grown_nl hs1323 ((fun b hb => (nx_5 b hb)) : ∀ b ∈ L_actual_lines, b ∉ L_grid) (fun b hb => (S1281.ow b (((fun b hb => (.tail _ (.tail _ (.tail _ (.tail _ (.tail _ (List.mem_append_left _ hb))))))) : ∀ b ∈ L_grid, b ∈ (D1219 :: (a_grid :: (p_actual :: (l_actual_lines :: (p1200 :: (L_grid ++ (L_actual_lines ++ [])))))))) b hb)).2.1)) b hb)) b hb (z ▸ (hs1343 _ List.mem_cons_self))) : ∀ b ∈ L1322, b ≠ b1347)) w1325)
      have hw := cW_ok hw
      exact hK0 _ hw _ _ _ L1322 _ L1365 S1364.base S1364.g0 S1364.sG S1364.gn S1364.pm h1370 h1371 h1372 ((fun b hb => (hs1323 b hb).elim (((fun b hb => .inl hb) : ∀ b ∈ L_actual_lines, b ∈ L_actual_lines ∨ H b = none) b) (fun z => .inr (S1281.free z))) : ∀ b ∈ L1322, b ∈ L_actual_lines ∨ H b = none) ((fun b hb => (S1364.ow b (((fun b hb => (List.mem_append_left _ hb)) : ∀ b ∈ L1322, b ∈ (L1322 ++ (D1219 :: (a_grid :: (p_actual :: (l_actual_lines :: (p1200 :: (L_grid ++ [])))))))) b hb)).1) : ∀ b ∈ L1322, G1314 b = none) ((fun b hb => ((all_app (fun b hb => .inl hb) all_nil) : ∀ b ∈ (L_grid ++ ([] : List Addr)), b ∈ L_grid ∨ H b = none) b (hL1366 b hb)) : ∀ b ∈ L1365, b ∈ L_grid ∨ H b = none) ((fun b hb => (S1364.ow b ((fun b hb => ((all_app ((fun b hb => (List.mem_append_right _ (.tail _ (.tail _ (.tail _ (.tail _ (.tail _ (List.mem_append_left _ hb)))))))) : ∀ b ∈ L_grid, b ∈ (L1322 ++ (D1219 :: (a_grid :: (p_actual :: (l_actual_lines :: (p1200 :: (L_grid ++ [])))))))) all_nil) : ∀ b ∈ (L_grid ++ ([] : List Addr)), b ∈ (L1322 ++ (D1219 :: (a_grid :: (p_actual :: (l_actual_lines :: (p1200 :: (L_grid ++ [])))))))) b (hL1366 b hb)) b hb)).1) : ∀ b ∈ L1365, G1314 b = none) (ne1326 : ∀ b ∈ L1322, b ≠ p_actual) (ne1327 : ∀ b ∈ L1322, b ≠ l_actual_lines) ((grown_ne hs1323 (nx_4 : ∀ b ∈ L_actual_lines, b ≠ a_grid) (S1281.ow _ (.tail _ (.head _))).2.1) : ∀ b ∈ L1322, b ≠ a_grid) ((fun b hb => ((all_app nx_1 all_nil) : ∀ b ∈ (L_grid ++ ([] : List Addr)), b ≠ p_actual) b (hL1366 b hb)) : ∀ b ∈ L1365, b ≠ p_actual) ((fun b hb => ((all_app nx_3 all_nil) : ∀ b ∈ (L_grid ++ ([] : List Addr)), b ≠ l_actual_lines) b (hL1366 b hb)) : ∀ b ∈ L1365, b ≠ l_actual_lines) ((fun b hb => ((all_app nw_grid_0 all_nil) : ∀ b ∈ (L_grid ++ ([] : List Addr)), b ≠ a_grid) b (hL1366 b hb)) : ∀ b ∈ L1365, b ≠ a_grid) ((fun b hb => ((nl_symm (fun c hc => ((all_app (nl_symm (grown_nl hs1323 ((fun b hb => (nx_5 b hb)) : ∀ b ∈ L_actual_lines, b ∉ L_grid) (fun b hb => (S1281.ow b (((fun b hb => (.tail _ (.tail _ (.tail _ (.tail _ (.tail _ (List.mem_append_left _ hb))))))) : ∀ b ∈ L_grid, b ∈ (D1219 :: (a_grid :: (p_actual :: (l_actual_lines :: (p1200 :: (L_grid ++ (L_actual_lines ++ [])))))))) b hb)).2.1))) all_nil) : ∀ c ∈ (L_grid ++ ([] : List Addr)), c ∉ L1322) c (hL1366 c hc))) b hb)) : ∀ b ∈ L1322, b ∉ L1365) w1373 w1368
    · have hw := cW_neg c1300 hw
      refine ⟨_, rfl, _, rfl, _, _, rfl, (SqL.of h1282), fun p1374 n1375 => ?_⟩
      generalize g1376 : upd H1280 p1374 _ = H1377
      obtain ⟨e1378, h1379⟩ := gen_new n1375 g1376
      have h1380 : H1377 p1374 = some (.lst (cutV (vs1286) none (some (1)))) := h1379
      have fr1381 := S1281.free n1375
      have S1382 := S1281.new n1375 e1378 h1380 fr1381
      have d1383 : RpAll G1283 (cutV (vs1286) none (some (1))) ((cutL (acc1285) none (some (1)) : (List PyData)).map encD) := cut_all none (some (1)) d1287
      refine ⟨_, rfl, (by show 3 ≤ sizeLine; decide), fun p1384 n1385 => ?_⟩
      generalize g1386 : upd H1377 p1384 _ = H1387
      obtain ⟨e1388, h1389⟩ := gen_new n1385 g1386
      have h1390 : H1387 p1384 = some (.lst [V.non, V.ref p1374, V.ref D1219]) := h1389
      have fr1391 := S1382.free n1385
      have S1392 := S1382.new n1385 e1388 h1390 fr1391
      obtain ⟨g1393, hw⟩ := cW_grd hw
      have h1394 := (e1388 _ _ (e1378 _ _ h1295))
      obtain ⟨g1395, hw⟩ := cW_grd hw
      by_cases c1396 : ((itD (v1197) (0)) : Int) = 0
      · have hw := cW_pos c1396 hw
        refine ⟨_, rfl, _, _, _, _, rfl, rfl, (SqL.of h1394), (atI_map g1393), _, _, _, _, rfl, rfl, (SqL.of h1390), (by rw [c1396]; rfl), ?_⟩
        obtain ⟨K1404, hK1405, hw⟩ := cW_push hw
        refine ⟨_, rfl, (by decide), (by decide), for_range (lo := 0) (n := Int.toNat (4)) (fun i σ H' => ∃ (grid_1406 : (List (List PyData))) (vs1407 : List V) (L1408 : List Addr) (u1409 : Option V) (u1410 : Option V) (G' : Hp), σ = [some (V.ref p_actual), some (V.ref a_grid), some (V.int (cell')), some (V.int (columns')), some (V.int (rows')), some (V.ref p1200), some (V.int (((itD (v1197) (1)) % columns'))), some (V.int (((itD (v1197) (2)) % rows'))), some (V.int ((1 + (itD (v1197) (3))))), some (V.ref D1219), some (V.non), u1409, u1410] ∧ Same G1283 G' ∧ Sep (p_actual :: (l_actual_lines :: (L_actual_lines ++ (a_grid :: (L_grid ++ []))))) H G G' H' (p_actual :: (l_actual_lines :: (a_grid :: (p1200 :: (D1219 :: (L_actual_lines ++ (L1408 ++ []))))))) ∧ H' p_actual = some (.ins AD.c_MotionGrid dx_actual [("_width", V.int (actual'.width)), ("_height", V.int (actual'.height)), ("_lines", V.ref l_actual_lines)]) ∧ H' l_actual_lines = some (.lst (vs_actual_lines)) ∧ H' a_grid = some (.lst (vs1407)) ∧ H' p1200 = some (.lst ((v1197 : (List Int)).map V.int)) ∧ H' D1219 = some (.lst (vs1286)) ∧ (∀ b ∈ L1408, b ≠ p_actual) ∧ (∀ b ∈ L1408, b ≠ l_actual_lines) ∧ (∀ b ∈ L1408, b ≠ a_grid) ∧ (∀ b ∈ L1408, b ≠ p1200) ∧ (∀ b ∈ L1408, b ≠ D1219) ∧ (∀ b ∈ L1408, b ∉ L_actual_lines) ∧ OwAll G' H' L_actual_lines (vs_actual_lines) ((actual'.lines : (List (List PyData))).map (oL (oF encD))) ∧ OwAll G' H' L1408 (vs1407) ((grid_1406 : (List (List PyData))).map (oL (oF encD))) ∧ (∀ b ∈ L1408, b ∈ L_grid ∨ H b = none) ∧ cW (forS (List.drop i (rng (0) (Int.toNat (4)))) grid_1406 (fun s x => F__law_keep_b2 (v1197) (((itD (v1197) (1)) % columns')) (((itD (v1197) (2)) % rows')) (acc1285) s x)) K1404 EE) ?_ ?_ ?_⟩
        · have h1411 := (e1388 _ _ (e1378 _ _ h1293))
          have h1412 := (e1388 _ _ (e1378 _ _ h1294))
          have h1413 := (e1388 _ _ (e1378 _ _ h1292))
          have h1414 := (e1388 _ _ (e1378 _ _ h1282))
          have w1415 : OwAll G1283 H1387 L_actual_lines (vs_actual_lines) ((actual'.lines : (List (List PyData))).map (oL (oF encD))) := (OwAll.mono (Same.refl _) (keeps_same e1388) (OwAll.mono (Same.refl _) (keeps_same e1378) w1297))
          have w1416 : OwAll G1283 H1387 L_grid (vs_grid) ((grid' : (List (List PyData))).map (oL (oF encD))) := (OwAll.mono (Same.refl _) (keeps_same e1388) (OwAll.mono (Same.refl _) (keeps_same e1378) w1296))
          exact ⟨(grid'), (vs_grid), L_grid, _, _, _, rfl, (Same.refl _), (S1392.sub (all_cons (.tail _ (.tail _ (.tail _ (.tail _ (.head _))))) (all_cons (.tail _ (.tail _ (.tail _ (.tail _ (.tail _ (.head _)))))) (all_cons (.tail _ (.tail _ (.tail _ (.head _)))) (all_cons (.tail _ (.tail _ (.tail _ (.tail _ (.tail _ (.tail _ (.head _))))))) (all_cons (.tail _ (.tail _ (.head _))) (all_app ((fun b hb => (.tail _ (.tail _ (.tail _ (.tail _ (.tail _ (.tail _ (.tail _ (List.mem_append_right _ (List.mem_append_left _ hb)))))))))) : ∀ b ∈ L_actual_lines, b ∈ (p1384 :: (p1374 :: (D1219 :: (a_grid :: (p_actual :: (l_actual_lines :: (p1200 :: (L_grid ++ (L_actual_lines ++ [])))))))))) (all_app ((fun b hb => (.tail _ (.tail _ (.tail _ (.tail _ (.tail _ (.tail _ (.tail _ (List.mem_append_left _ hb))))))))) : ∀ b ∈ L_grid, b ∈ (p1384 :: (p1374 :: (D1219 :: (a_grid :: (p_actual :: (l_actual_lines :: (p1200 :: (L_grid ++ (L_actual_lines ++ [])))))))))) all_nil)))))))), h1411, h1412, h1413, h1394, h1414, nx_1, nx_3, nw_grid_0, (there_ne (fun b_ hb_ => (S1196.ow b_ (((fun b hb => (.tail _ (.tail _ (.tail _ (List.mem_append_right _ (.tail _ (List.mem_append_left _ hb))))))) : ∀ b ∈ L_grid, b ∈ (p1188 :: (p_actual :: (l_actual_lines :: (L_actual_lines ++ (a_grid :: (L_grid ++ []))))))) b_ hb_)).2.1) n1201), (there_ne (fun b_ hb_ => (S1205.ow b_ (((fun b hb => (.tail _ (.tail _ (.tail _ (.tail _ (List.mem_append_right _ (.tail _ (List.mem_append_left _ hb)))))))) : ∀ b ∈ L_grid, b ∈ (p1200 :: (p1188 :: (p_actual :: (l_actual_lines :: (L_actual_lines ++ (a_grid :: (L_grid ++ [])))))))) b_ hb_)).2.1) n1220), (nl_symm nx_5), w1415, w1416, ((fun b hb => .inl hb) : ∀ b ∈ L_grid, b ∈ L_grid ∨ H b = none), hw⟩
        · intro i σ H1417 hi hw
          obtain ⟨grid_1406, vs1407, L1408, u1409, u1410, G1433, rfl, eG1434, S1418, h1419, h1420, h1421, h1422, h1423, ne1424, ne1425, ne1426, ne1427, ne1428, ne1429, w1430, w1431, hs1432, hw⟩ := hw
          have hw := cW_forS (rng_get hi) hw
          generalize (0 + (i : Int)) = x1435 at hw ⊢
          have hw : cW (F__law_keep_b2 (v1197) (((itD (v1197) (1)) % columns')) (((itD (v1197) (2)) % rows')) (acc1285) (grid_1406) (x1435)) _ EE := hw
          unfold F__law_keep_b2 at hw
          obtain ⟨K1437, hK1438, hw⟩ := cW_name hw
          obtain ⟨g1440, hw⟩ := cW_grd hw
          obtain ⟨v1441, a1442, r1443⟩ := RpAll.ixD (k := 0) (RpAll.mono eG1434 d1287) g1440
          obtain ⟨g1444, hw⟩ := cW_grd hw
          obtain ⟨v1445, a1446, r1447⟩ := RpAll.ixD (k := x1435) (RpAll.mono eG1434 d1287) g1444
          refine ⟨_, rfl, _, _, _, _, rfl, rfl, (SqL.of h1423), a1442, _, rfl, _, rfl, _, _, _, _, rfl, rfl, (SqL.of h1423), a1446, ?_⟩
          have r1448 : Rp G1433 (V.non) (encD (encN (()))) := .non
          refine ⟨(by show 3 ≤ sizeLine; decide), fun p1449 n1450 => ?_⟩
          generalize g1451 : upd H1417 p1449 _ = H1452
          obtain ⟨e1453, h1454⟩ := gen_new n1450 g1451
          have h1455 : H1452 p1449 = some (.lst ([(V.non), v1441, v1445])) := h1454
          have fr1456 := S1418.free n1450
          have S1457 := S1418.new n1450 e1453 h1455 fr1456
          have d1458 : RpAll G1433 ([(V.non), v1441, v1445]) (([(encN (())), (itD (acc1285) (0)), (itD (acc1285) (x1435))] : (List PyData)).map encD) := (RpAll.cons r1448 (RpAll.cons r1443 (RpAll.cons r1447 RpAll.nil)))
          obtain ⟨g1459, hw⟩ := cW_grd hw
          have h1460 := (e1453 _ _ h1422)
          obtain ⟨g1461, hw⟩ := cW_grd hw
          obtain ⟨v1462, a1463, r1464⟩ := RpAll.ixD (k := (itD (v1197) (0))) d1458 g1461
          refine ⟨_, rfl, _, _, _, _, rfl, rfl, (SqL.of h1460), (atI_map g1459), _, _, _, _, rfl, rfl, (SqL.of h1455), a1463, _, rfl, ?_⟩
          obtain ⟨g1465, hw⟩ := cW_grd hw
          have w1466 : OwAll G1433 H1452 L1408 (vs1407) ((grid_1406 : (List (List PyData))).map (oL (oF encD))) := (OwAll.mono (Same.refl _) (keeps_same e1453) w1431)
          obtain ⟨v1467, L1468, a1469, w1470, hs1471, up1472, gr1473⟩ := OwAll.partM (k := ((2 * ((itD (v1197) (2)) % rows')) + (x1435 / 2))) w1466 g1465
          have h1474 := (e1453 _ _ h1421)
          obtain ⟨b1475, vs1476, L1477, rfl, rfl, h1478, w1479, nb1480⟩ := Ow.toList w1470
          refine ⟨_, rfl, _, rfl, _, _, rfl, rfl, (.inl ⟨by decide, by decide⟩), _, rfl, _, _, rfl, rfl, (divW_lit (by decide) (by decide)), _, _, rfl, rfl, _, _, _, _, rfl, rfl, (SqL.of h1474), a1469, _, rfl, _, _, rfl, rfl, (.inl ⟨by decide, by decide⟩), _, rfl, .inl ⟨_, rfl, ?_⟩⟩
          obtain ⟨g1481, hw⟩ := cW_grd hw
          refine ⟨_, _, rfl, rfl, (show (0 : Int) < 2 by decide), _, _, rfl, rfl, _, _, _, _, rfl, rfl, h1478, (ixN_len w1479.lenM g1481), ?_⟩
          obtain ⟨L1482, hL1483, w1484⟩ := OwAll.setM w1479 g1481 (Ow.frz r1464) (all_nil : ∀ b ∈ ([] : List Addr), b ∉ L1477)
          generalize g1486 : upd H1452 b1475 _ = H1487
          obtain ⟨x1488, h1489⟩ := gen_mut g1486
          have h1490 : H1487 b1475 = some (.lst ((vs1476).set ((ixN (vs1476).length (((2 * ((itD (v1197) (1)) % columns')) + (x1435 % 2)))).getD 0) (v1462))) := h1489
          have S1491 := S1457.mut1 x1488 ((((fun b hb => (.tail _ (.tail _ (.tail _ (.tail _ (.tail _ (.tail _ (List.mem_append_right _ (List.mem_append_left _ hb))))))))) : ∀ b ∈ L1408, b ∈ (p1449 :: (p_actual :: (l_actual_lines :: (a_grid :: (p1200 :: (D1219 :: (L_actual_lines ++ (L1408 ++ []))))))))) : ∀ b ∈ L1408, b ∈ (p1449 :: (p_actual :: (l_actual_lines :: (a_grid :: (p1200 :: (D1219 :: (L_actual_lines ++ (L1408 ++ []))))))))) _ (hs1471 _ List.mem_cons_self)) h1490
          have w1485 : OwAll G1433 H1487 L1482 ((vs1476).set ((ixN (vs1476).length (((2 * ((itD (v1197) (1)) % columns')) + (x1435 % 2)))).getD 0) (v1462)) ((setL ((itD (grid_1406) (((2 * ((itD (v1197) (2)) % rows')) + (x1435 / 2))))) (((2 * ((itD (v1197) (1)) % columns')) + (x1435 % 2))) ((itD ([(encN (())), (itD (acc1285) (0)), (itD (acc1285) (x1435))]) ((itD (v1197) (0))))) : (List PyData)).map (oF encD)) := OwAll.mono (Same.refl _) (keeps_mut x1488 ((fun b hb => ((all_app nb1480 all_nil) : ∀ b ∈ (L1477 ++ ([] : List Addr)), b ≠ b1475) b (hL1483 b hb)) : ∀ b ∈ L1482, b ≠ b1475)) w1484
          obtain ⟨L1492, hL1493, w1494⟩ := gr1473 H1487 _ ([] : List Addr) (b1475 :: L1482) (grow_keeps (Same.refl _) x1488 List.mem_cons_self) (grow_sub hL1483) (all_nil : ∀ b ∈ ([] : List Addr), b ∉ L1408) (Ow.list h1490 w1485 ((fun b hb => ((all_app nb1480 all_nil) : ∀ b ∈ (L1477 ++ ([] : List Addr)), b ≠ b1475) b (hL1483 b hb)) : ∀ b ∈ L1482, b ≠ b1475))
          have w1495 : OwAll G1433 H1487 L1492 (vs1407) ((setL (grid_1406) (((2 * ((itD (v1197) (2)) % rows')) + (x1435 / 2))) (setL ((itD (grid_1406) (((2 * ((itD (v1197) (2)) % rows')) + (x1435 / 2))))) (((2 * ((itD (v1197) (1)) % columns')) + (x1435 % 2))) ((itD ([(encN (())), (itD (acc1285) (0)), (itD (acc1285) (x1435))]) ((itD (v1197) (0)))))) : (List (List PyData))).map (oL (oF encD))) := w1494
          have hw := cW_bnd hw
          have hw := cW_ok hw
          have hw := hK1438 _ hw
          have h1497 := (x1488 _ _ (e1453 _ _ h1419) (ne1424 _ (hs1471 _ List.mem_cons_self)).symm)
          have h1498 := (x1488 _ _ (e1453 _ _ h1420) (ne1425 _ (hs1471 _ List.mem_cons_self)).symm)
          have h1499 := (x1488 _ _ h1474 (ne1426 _ (hs1471 _ List.mem_cons_self)).symm)
          have h1500 := (x1488 _ _ h1460 (ne1427 _ (hs1471 _ List.mem_cons_self)).symm)
          have h1501 := (x1488 _ _ (e1453 _ _ h1423) (ne1428 _ (hs1471 _ List.mem_cons_self)).symm)
          have w1502 : OwAll G1433 H1487 L_actual_lines (vs_actual_lines) ((actual'.lines : (List (List PyData))).map (oL (oF encD))) := (OwAll.mono (Same.refl _) (keeps_mut x1488 ((fun b hb z => (fun b hb => ((nl_symm ne1429) b hb)) b hb (z ▸ (hs1471 _ List.mem_cons_self))) : ∀ b ∈ L_actual_lines, b ≠ b1475)) (OwAll.mono (Same.refl _) (keeps_same e1453) w1430))
          exact ⟨(setL (grid_1406) (((2 * ((itD (v1197) (2)) % rows')) + (x1435 / 2))) (setL ((itD (grid_1406) (((2 * ((itD (v1197) (2)) % rows')) + (x1435 / 2))))) (((2 * ((itD (v1197) (1)) % columns')) + (x1435 % 2))) ((itD ([(encN (())), (itD (acc1285) (0)), (itD (acc1285) (x1435))]) ((itD (v1197) (0))))))), (vs1407), L1492, _, _, _, rfl, eG1434, (S1491.sub (all_cons (.tail _ (.head _)) (all_cons (.tail _ (.tail _ (.head _))) (all_cons (.tail _ (.tail _ (.tail _ (.head _)))) (all_cons (.tail _ (.tail _ (.tail _ (.tail _ (.head _))))) (all_cons (.tail _ (.tail _ (.tail _ (.tail _ (.tail _ (.head _)))))) (all_app ((fun b hb => (.tail _ (.tail _ (.tail _ (.tail _ (.tail _ (.tail _ (List.mem_append_left _ hb)))))))) : ∀ b ∈ L_actual_lines, b ∈ (p1449 :: (p_actual :: (l_actual_lines :: (a_grid :: (p1200 :: (D1219 :: (L_actual_lines ++ (L1408 ++ []))))))))) (all_app (fun b hb => ((all_app ((fun b hb => (.tail _ (.tail _ (.tail _ (.tail _ (.tail _ (.tail _ (List.mem_append_right _ (List.mem_append_left _ hb))))))))) : ∀ b ∈ L1408, b ∈ (p1449 :: (p_actual :: (l_actual_lines :: (a_grid :: (p1200 :: (D1219 :: (L_actual_lines ++ (L1408 ++ []))))))))) all_nil) : ∀ b ∈ (L1408 ++ ([] : List Addr)), b ∈ (p1449 :: (p_actual :: (l_actual_lines :: (a_grid :: (p1200 :: (D1219 :: (L_actual_lines ++ (L1408 ++ []))))))))) b (hL1493 b hb)) all_nil)))))))), h1497, h1498, h1499, h1500, h1501, (fun b hb => ((all_app ne1424 all_nil) : ∀ b ∈ (L1408 ++ ([] : List Addr)), b ≠ p_actual) b (hL1493 b hb)), (fun b hb => ((all_app ne1425 all_nil) : ∀ b ∈ (L1408 ++ ([] : List Addr)), b ≠ l_actual_lines) b (hL1493 b hb)), (fun b hb => ((all_app ne1426 all_nil) : ∀ b ∈ (L1408 ++ ([] : List Addr)), b ≠ a_grid) b (hL1493 b hb)), (fun b hb => ((all_app ne1427 all_nil) : ∀ b ∈ (L1408 ++ ([] : List Addr)), b ≠ p1200) b (hL1493 b hb)), (fun b hb => ((all_app ne1428 all_nil) : ∀ b ∈ (L1408 ++ ([] : List Addr)), b ≠ D1219) b (hL1493 b hb)), (fun c hc => ((all_app ne1429 all_nil) : ∀ c ∈ (L1408 ++ ([] : List Addr)), c ∉ L_actual_lines) c (hL1493 c hc)), w1502, w1495, ((fun b hb => ((all_app (fun b hb => (hs1432 b hb).elim (((fun b hb => .inl hb) : ∀ b ∈ L_grid, b ∈ L_grid ∨ H b = none) b) (fun z => .inr (S0.free z))) all_nil) : ∀ b ∈ (L1408 ++ ([] : List Addr)), b ∈ L_grid ∨ H b = none) b (hL1493 b hb)) : ∀ b ∈ L1492, b ∈ L_grid ∨ H b = none), hw⟩
        · intro σ H1503 hw
          obtain ⟨grid_1406, vs1407, L1408, u1409, u1410, G1519, rfl, eG1520, S1504, h1505, h1506, h1507, h1508, h1509, ne1510, ne1511, ne1512, ne1513, ne1514, ne1515, w1516, w1517, hs1518, hw⟩ := hw
          have hw := hK1405 _ (cW_forS0 (rng_len _ _).symm hw)
          have hw : cW (F__law_keep_r2 (actual') (((itD (v1197) (1)) % columns')) (((itD (v1197) (2)) % rows')) (grid_1406)) _ EE := hw
          unfold F__law_keep_r2 at hw
          refine ⟨_, rfl, _, _, _, rfl, h1505, rfl, _, rfl, _, rfl, _, rfl, rfl, rfl, G1519, _, _, _, _, L_actual_lines, actual', _, _, _, none, rfl, S1504.sG, (S1504.gno (all_cons (.head _) (all_cons (.tail _ (.head _)) (all_app ((fun b hb => (.tail _ (.tail _ (.tail _ (.tail _ (.tail _ (List.mem_append_left _ hb))))))) : ∀ b ∈ L_actual_lines, b ∈ (p_actual :: (l_actual_lines :: (a_grid :: (p1200 :: (D1219 :: (L_actual_lines ++ (L1408 ++ [])))))))) all_nil)))), h1505, h1506, w1516, (nw_actual_lines_0 : ∀ b ∈ L_actual_lines, b ≠ p_actual), (nw_actual_lines_1 : ∀ b ∈ L_actual_lines, b ≠ l_actual_lines), rfl, cW_callN hw (fun v1522 hw H1526 G1529 vs1536 L1537 x1527 eG1530 sG1531 hn1532 pm1533 h1534 h1535 hs1538 gl1539 ne1541 ne1542 w1540 => ?_) trivial⟩
          have S1528 : Sep _ _ _ G1529 H1526 (L1537 ++ (p_actual :: (l_actual_lines :: (a_grid :: (p1200 :: (D1219 :: (L1408 ++ []))))))) := Sep.mutgrow S1504 x1527 (all_cons (.head _) (all_cons (.tail _ (.head _)) (all_app ((fun b hb => (.tail _ (.tail _ (.tail _ (.tail _ (.tail _ (List.mem_append_left _ hb))))))) : ∀ b ∈ L_actual_lines, b ∈ (p_actual :: (l_actual_lines :: (a_grid :: (p1200 :: (D1219 :: (L_actual_lines ++ (L1408 ++ [])))))))) all_nil))) pm1533 eG1530 sG1531 hn1532 (all_app (fun b hb => (hs1538 b hb).elim (fun z => .inl ((((fun b hb => (.tail _ (.tail _ (.tail _ (.tail _ (.tail _ (List.mem_append_left _ hb))))))) : ∀ b ∈ L_actual_lines, b ∈ (p_actual :: (l_actual_lines :: (a_grid :: (p1200 :: (D1219 :: (L_actual_lines ++ (L1408 ++ [])))))))) : ∀ b ∈ L_actual_lines, b ∈ (p_actual :: (l_actual_lines :: (a_grid :: (p1200 :: (D1219 :: (L_actual_lines ++ (L1408 ++ [])))))))) b z)) (fun z => .inr ⟨z, gl1539 b hb, OwAll.there w1540 b hb⟩)) (all_cons (.inl (.head _)) (all_cons (.inl (.tail _ (.head _))) (all_cons (.inl (.tail _ (.tail _ (.head _)))) (all_cons (.inl (.tail _ (.tail _ (.tail _ (.head _))))) (all_cons (.inl (.tail _ (.tail _ (.tail _ (.tail _ (.head _)))))) (all_app (fun b hb => .inl (((fun b hb => (.tail _ (.tail _ (.tail _ (.tail _ (.tail _ (List.mem_append_right _ (List.mem_append_left _ hb)))))))) : ∀ b ∈ L1408, b ∈ (p_actual :: (l_actual_lines :: (a_grid :: (p1200 :: (D1219 :: (L_actual_lines ++ (L1408 ++ [])))))))) b hb)) all_nil)))))))
          refine ⟨fun σ H' => ∃ (u1547 : Option V) (G' : Hp), σ = [some (V.ref p_actual), some (V.ref a_grid), some (V.int (cell')), some (V.int (columns')), some (V.int (rows')), some (V.ref p1200), some (V.int (((itD (v1197) (1)) % columns'))), some (V.int (((itD (v1197) (2)) % rows'))), some (V.int ((1 + (itD (v1197) (3))))), some (V.ref D1219), u1547, u1409, u1410] ∧ Same G1529 G' ∧ Sep (p_actual :: (l_actual_lines :: (L_actual_lines ++ (a_grid :: (L_grid ++ []))))) H G G' H' (p_actual :: (l_actual_lines :: (a_grid :: (p1200 :: (D1219 :: (L1537 ++ (L1408 ++ []))))))) ∧ H' p_actual = some (.ins AD.c_MotionGrid dx_actual [("_width", V.int (v1522.width)), ("_height", V.int (v1522.height)), ("_lines", V.ref l_actual_lines)]) ∧ H' l_actual_lines = some (.lst (vs1536)) ∧ H' a_grid = some (.lst (vs1407)) ∧ H' p1200 = some (.lst ((v1197 : (List Int)).map V.int)) ∧ H' D1219 = some (.lst (vs1286)) ∧ OwAll G' H' L1537 (vs1536) ((v1522.lines : (List (List PyData))).map (oL (oF encD))) ∧ OwAll G' H' L1408 (vs1407) ((grid_1406 : (List (List PyData))).map (oL (oF encD))) ∧ cW (F__law_keep_k3 (v1522) (grid_1406) ) KK EE, ?_, ?_⟩
          · obtain ⟨K1548, hK1549, hw⟩ := cW_push hw
            refine ⟨_, rfl, (encN (())), rfl, .non, _, rfl, ?_⟩
            refine iteF ?_
            have hw := cW_ok hw
            have hw := hK1549 _ hw
            have h1550 := (x1527 _ _ h1507 (nm_cons (nx_0).symm (nm_cons (nx_2).symm (nm_app (fun z => nx_4 _ z rfl) nm_nil))))
            have h1551 := (x1527 _ _ h1508 (nm_cons (ne_of_none (e1192 _ _ h_p_actual) n1201).symm (nm_cons (ne_of_none (e1192 _ _ h_l_actual_lines) n1201).symm (nm_app (fun z => (there_ne (fun b_ hb_ => (S1196.ow b_ (((fun b hb => (.tail _ (.tail _ (.tail _ (List.mem_append_left _ hb))))) : ∀ b ∈ L_actual_lines, b ∈ (p1188 :: (p_actual :: (l_actual_lines :: (L_actual_lines ++ (a_grid :: (L_grid ++ []))))))) b_ hb_)).2.1) n1201) _ z rfl) nm_nil))))
            have h1552 := (x1527 _ _ h1509 (nm_cons (ne_of_none (e1199 _ _ (e1192 _ _ h_p_actual)) n1220).symm (nm_cons (ne_of_none (e1199 _ _ (e1192 _ _ h_l_actual_lines)) n1220).symm (nm_app (fun z => (there_ne (fun b_ hb_ => (S1205.ow b_ (((fun b hb => (.tail _ (.tail _ (.tail _ (.tail _ (List.mem_append_left _ hb)))))) : ∀ b ∈ L_actual_lines, b ∈ (p1200 :: (p1188 :: (p_actual :: (l_actual_lines :: (L_actual_lines ++ (a_grid :: (L_grid ++ [])))))))) b_ hb_)).2.1) n1220) _ z rfl) nm_nil))))
            have w1553 : OwAll G1529 H1526 L1408 (vs1407) ((grid_1406 : (List (List PyData))).map (oL (oF encD))) := (OwAll.mono eG1530 keeps_refl (OwAll.mono (Same.refl _) (keeps_muts x1527 ((fun b hb => (nm_cons (ne1510 b hb) (nm_cons (ne1511 b hb) (nm_app ((fun b hb => (ne1515 b hb)) b hb) nm_nil)))) : ∀ b ∈ L1408, b ∉ (p_actual :: (l_actual_lines :: (L_actual_lines ++ []))))) w1517))
            exact ⟨_, _, rfl, (Same.refl _), (S1528.sub (all_cons (List.mem_append_right _ (.head _)) (all_cons (List.mem_append_right _ (.tail _ (.head _))) (all_cons (List.mem_append_right _ (.tail _ (.tail _ (.head _)))) (all_cons (List.mem_append_right _ (.tail _ (.tail _ (.tail _ (.head _))))) (all_cons (List.mem_append_right _ (.tail _ (.tail _ (.tail _ (.tail _ (.head _)))))) (all_app ((fun b hb => (List.mem_append_left _ hb)) : ∀ b ∈ L1537, b ∈ (L1537 ++ (p_actual :: (l_actual_lines :: (a_grid :: (p1200 :: (D1219 :: (L1408 ++ [])))))))) (all_app ((fun b hb => (List.mem_append_right _ (.tail _ (.tail _ (.tail _ (.tail _ (.tail _ (List.mem_append_left _ hb)))))))) : ∀ b ∈ L1408, b ∈ (L1537 ++ (p_actual :: (l_actual_lines :: (a_grid :: (p1200 :: (D1219 :: (L1408 ++ [])))))))) all_nil)))))))), h1534, h1535, h1550, h1551, h1552, w1540, w1553, hw⟩
          · intro σ H1554 hw
            obtain ⟨u1547, G1563, rfl, eG1564, S1555, h1556, h1557, h1558, h1559, h1560, w1561, w1562, hw⟩ := hw
            unfold F__law_keep_k3 at hw
            have hw := cW_ok hw
            exact hK0 _ hw _ _ _ L1537 _ L1408 S1555.base S1555.g0 S1555.sG S1555.gn S1555.pm h1556 h1557 h1558 ((fun b hb => (hs1538 b hb).elim (((fun b hb => .inl hb) : ∀ b ∈ L_actual_lines, b ∈ L_actual_lines ∨ H b = none) b) (fun z => .inr (S1504.free z))) : ∀ b ∈ L1537, b ∈ L_actual_lines ∨ H b = none) ((fun b hb => (S1555.ow b (((fun b hb => (.tail _ (.tail _ (.tail _ (.tail _ (.tail _ (List.mem_append_left _ hb))))))) : ∀ b ∈ L1537, b ∈ (p_actual :: (l_actual_lines :: (a_grid :: (p1200 :: (D1219 :: (L1537 ++ (L1408 ++ [])))))))) b hb)).1) : ∀ b ∈ L1537, G1563 b = none) ((fun b hb => (hs1518 b hb).elim (((fun b hb => .inl hb) : ∀ b ∈ L_grid, b ∈ L_grid ∨ H b = none) b) (fun z => .inr (S0.free z))) : ∀ b ∈ L1408, b ∈ L_grid ∨ H b = none) ((fun b hb => (S1555.ow b (((fun b hb => (.tail _ (.tail _ (.tail _ (.tail _ (.tail _ (List.mem_append_right _ (List.mem_append_left _ hb)))))))) : ∀ b ∈ L1408, b ∈ (p_actual :: (l_actual_lines :: (a_grid :: (p1200 :: (D1219 :: (L1537 ++ (L1408 ++ [])))))))) b hb)).1) : ∀ b ∈ L1408, G1563 b = none) (ne1541 : ∀ b ∈ L1537, b ≠ p_actual) (ne1542 : ∀ b ∈ L1537, b ≠ l_actual_lines) ((grown_ne hs1538 (nx_4 : ∀ b ∈ L_actual_lines, b ≠ a_grid) (S1504.ow _ (.tail _ (.tail _ (.head _)))).2.1) : ∀ b ∈ L1537, b ≠ a_grid) (ne1510 : ∀ b ∈ L1408, b ≠ p_actual) (ne1511 : ∀ b ∈ L1408, b ≠ l_actual_lines) (ne1512 : ∀ b ∈ L1408, b ≠ a_grid) ((fun b hb => ((grown_nl hs1538 ((fun b hb => ((nl_symm ne1515) b hb)) : ∀ b ∈ L_actual_lines, b ∉ L1408) (fun b hb => (S1504.ow b (((fun b hb => (.tail _ (.tail _ (.tail _ (.tail _ (.tail _ (List.mem_append_right _ (List.mem_append_left _ hb)))))))) : ∀ b ∈ L1408, b ∈ (p_actual :: (l_actual_lines :: (a_grid :: (p1200 :: (D1219 :: (L_actual_lines ++ (L1408 ++ [])))))))) b hb)).2.1)) b hb)) : ∀ b ∈ L1537, b ∉ L1408) w1561 w1562
      · have hw := cW_neg c1396 hw
        by_cases c1565 : ((itD (v1197) (0)) : Int) = 1
        · have hw := cW_pos c1565 hw
          refine ⟨_, rfl, _, _, _, _, rfl, rfl, (SqL.of h1394), (atI_map g1393), _, _, _, _, rfl, rfl, (SqL.of h1390), (by rw [c1565]; rfl), ?_⟩
          obtain ⟨K1574, hK1575, hw⟩ := cW_push hw
          refine ⟨_, rfl, (by decide), (by decide), for_range (lo := 0) (n := Int.toNat (4)) (fun i σ H' => ∃ (grid_1576 : (List (List PyData))) (vs1577 : List V) (L1578 : List Addr) (u1579 : Option V) (u1580 : Option V) (G' : Hp), σ = [some (V.ref p_actual), some (V.ref a_grid), some (V.int (cell')), some (V.int (columns')), some (V.int (rows')), some (V.ref p1200), some (V.int (((itD (v1197) (1)) % columns'))), some (V.int (((itD (v1197) (2)) % rows'))), some (V.int ((1 + (itD (v1197) (3))))), some (V.ref D1219), some (V.ref p1374), u1579, u1580] ∧ Same G1283 G' ∧ Sep (p_actual :: (l_actual_lines :: (L_actual_lines ++ (a_grid :: (L_grid ++ []))))) H G G' H' (p_actual :: (l_actual_lines :: (a_grid :: (p1200 :: (D1219 :: (p1374 :: (L_actual_lines ++ (L1578 ++ [])))))))) ∧ H' p_actual = some (.ins AD.c_MotionGrid dx_actual [("_width", V.int (actual'.width)), ("_height", V.int (actual'.height)), ("_lines", V.ref l_actual_lines)]) ∧ H' l_actual_lines = some (.lst (vs_actual_lines)) ∧ H' a_grid = some (.lst (vs1577)) ∧ H' p1200 = some (.lst ((v1197 : (List Int)).map V.int)) ∧ H' D1219 = some (.lst (vs1286)) ∧ H' p1374 = some (.lst (cutV (vs1286) none (some (1)))) ∧ (∀ b ∈ L1578, b ≠ p_actual) ∧ (∀ b ∈ L1578, b ≠ l_actual_lines) ∧ (∀ b ∈ L1578, b ≠ a_grid) ∧ (∀ b ∈ L1578, b ≠ p1200) ∧ (∀ b ∈ L1578, b ≠ D1219) ∧ (∀ b ∈ L1578, b ≠ p1374) ∧ (∀ b ∈ L1578, b ∉ L_actual_lines) ∧ OwAll G' H' L_actual_lines (vs_actual_lines) ((actual'.lines : (List (List PyData))).map (oL (oF encD))) ∧ OwAll G' H' L1578 (vs1577) ((grid_1576 : (List (List PyData))).map (oL (oF encD))) ∧ (∀ b ∈ L1578, b ∈ L_grid ∨ H b = none) ∧ cW (forS (List.drop i (rng (0) (Int.toNat (4)))) grid_1576 (fun s x => F__law_keep_b4 (v1197) (((itD (v1197) (1)) % columns')) (((itD (v1197) (2)) % rows')) (acc1285) s x)) K1574 EE) ?_ ?_ ?_⟩
          · have h1581 := (e1388 _ _ (e1378 _ _ h1293))
            have h1582 := (e1388 _ _ (e1378 _ _ h1294))
            have h1583 := (e1388 _ _ (e1378 _ _ h1292))
            have h1584 := (e1388 _ _ (e1378 _ _ h1282))
            have h1585 := (e1388 _ _ h1380)
            have w1586 : OwAll G1283 H1387 L_actual_lines (vs_actual_lines) ((actual'.lines : (List (List PyData))).map (oL (oF encD))) := (OwAll.mono (Same.refl _) (keeps_same e1388) (OwAll.mono (Same.refl _) (keeps_same e1378) w1297))
            have w1587 : OwAll G1283 H1387 L_grid (vs_grid) ((grid' : (List (List PyData))).map (oL (oF encD))) := (OwAll.mono (Same.refl _) (keeps_same e1388) (OwAll.mono (Same.refl _) (keeps_same e1378) w1296))
            exact ⟨(grid'), (vs_grid), L_grid, _, _, _, rfl, (Same.refl _), (S1392.sub (all_cons (.tail _ (.tail _ (.tail _ (.tail _ (.head _))))) (all_cons (.tail _ (.tail _ (.tail _ (.tail _ (.tail _ (.head _)))))) (all_cons (.tail _ (.tail _ (.tail _ (.head _)))) (all_cons (.tail _ (.tail _ (.tail _ (.tail _ (.tail _ (.tail _ (.head _))))))) (all_cons (.tail _ (.tail _ (.head _))) (all_cons (.tail _ (.head _)) (all_app ((fun b hb => (.tail _ (.tail _ (.tail _ (.tail _ (.tail _ (.tail _ (.tail _ (List.mem_append_right _ (List.mem_append_left _ hb)))))))))) : ∀ b ∈ L_actual_lines, b ∈ (p1384 :: (p1374 :: (D1219 :: (a_grid :: (p_actual :: (l_actual_lines :: (p1200 :: (L_grid ++ (L_actual_lines ++ [])))))))))) (all_app ((fun b hb => (.tail _ (.tail _ (.tail _ (.tail _ (.tail _ (.tail _ (.tail _ (List.mem_append_left _ hb))))))))) : ∀ b ∈ L_grid, b ∈ (p1384 :: (p1374 :: (D1219 :: (a_grid :: (p_actual :: (l_actual_lines :: (p1200 :: (L_grid ++ (L_actual_lines ++ [])))))))))) all_nil))))))))), h1581, h1582, h1583, h1394, h1584, h1585, nx_1, nx_3, nw_grid_0, (there_ne (fun b_ hb_ => (S1196.ow b_ (((fun b hb => (.tail _ (.tail _ (.tail _ (List.mem_append_right _ (.tail _ (List.mem_append_left _ hb))))))) : ∀ b ∈ L_grid, b ∈ (p1188 :: (p_actual :: (l_actual_lines :: (L_actual_lines ++ (a_grid :: (L_grid ++ []))))))) b_ hb_)).2.1) n1201), (there_ne (fun b_ hb_ => (S1205.ow b_ (((fun b hb => (.tail _ (.tail _ (.tail _ (.tail _ (List.mem_append_right _ (.tail _ (List.mem_append_left _ hb)))))))) : ∀ b ∈ L_grid, b ∈ (p1200 :: (p1188 :: (p_actual :: (l_actual_lines :: (L_actual_lines ++ (a_grid :: (L_grid ++ [])))))))) b_ hb_)).2.1) n1220), (there_ne (fun b_ hb_ => (S1281.ow b_ (((fun b hb => (.tail _ (.tail _ (.tail _ (.tail _ (.tail _ (List.mem_append_left _ hb))))))) : ∀ b ∈ L_grid, b ∈ (D1219 :: (a_grid :: (p_actual :: (l_actual_lines :: (p1200 :: (L_grid ++ (L_actual_lines ++ [])))))))) b_ hb_)).2.1) n1375), (nl_symm nx_5), w1586, w1587, ((fun b hb => .inl hb) : ∀ b ∈ L_grid, b ∈ L_grid ∨ H b = none), hw⟩
          · intro i σ H1588 hi hw
            obtain ⟨grid_1576, vs1577, L1578, u1579, u1580, G1606, rfl, eG1607, S1589, h1590, h1591, h1592, h1593, h1594, h1595, ne1596, ne1597, ne1598, ne1599, ne1600, ne1601, ne1602, w1603, w1604, hs1605, hw⟩ := hw
            have hw := cW_forS (rng_get hi) hw
            generalize (0 + (i : Int)) = x1608 at hw ⊢
            have hw : cW (F__law_keep_b4 (v1197) (((itD (v1197) (1)) % columns')) (((itD (v1197) (2)) % rows')) (acc1285) (grid_1576) (x1608)) _ EE := hw
            unfold F__law_keep_b4 at hw
            obtain ⟨K1610, hK1611, hw⟩ := cW_name hw
            obtain ⟨g1613, hw⟩ := cW_grd hw
            obtain ⟨v1614, a1615, r1616⟩ := RpAll.ixD (k := 0) (RpAll.mono eG1607 d1287) g1613
            obtain ⟨g1617, hw⟩ := cW_grd hw
            obtain ⟨v1618, a1619, r1620⟩ := RpAll.ixD (k := x1608) (RpAll.mono eG1607 d1287) g1617
            refine ⟨_, rfl, _, _, _, _, rfl, rfl, (SqL.of h1594), a1615, _, rfl, _, rfl, _, _, _, _, rfl, rfl, (SqL.of h1594), a1619, ?_⟩
            have r1621 : Rp G1606 (V.non) (encD (encN (()))) := .non
            refine ⟨(by show 3 ≤ sizeLine; decide), fun p1622 n1623 => ?_⟩
            generalize g1624 : upd H1588 p1622 _ = H1625
            obtain ⟨e1626, h1627⟩ := gen_new n1623 g1624
            have h1628 : H1625 p1622 = some (.lst ([(V.non), v1614, v1618])) := h1627
            have fr1629 := S1589.free n1623
            have S1630 := S1589.new n1623 e1626 h1628 fr1629
            have d1631 : RpAll G1606 ([(V.non), v1614, v1618]) (([(encN (())), (itD (acc1285) (0)), (itD (acc1285) (x1608))] : (List PyData)).map encD) := (RpAll.cons r1621 (RpAll.cons r1616 (RpAll.cons r1620 RpAll.nil)))
            obtain ⟨g1632, hw⟩ := cW_grd hw
            have h1633 := (e1626 _ _ h1593)
            obtain ⟨g1634, hw⟩ := cW_grd hw
            obtain ⟨v1635, a1636, r1637⟩ := RpAll.ixD (k := (itD (v1197) (0))) d1631 g1634
            refine ⟨_, rfl, _, _, _, _, rfl, rfl, (SqL.of h1633), (atI_map g1632), _, _, _, _, rfl, rfl, (SqL.of h1628), a1636, _, rfl, ?_⟩
            obtain ⟨g1638, hw⟩ := cW_grd hw
            have w1639 : OwAll G1606 H1625 L1578 (vs1577) ((grid_1576 : (List (List PyData))).map (oL (oF encD))) := (OwAll.mono (Same.refl _) (keeps_same e1626) w1604)
            obtain ⟨v1640, L1641, a1642, w1643, hs1644, up1645, gr1646⟩ := OwAll.partM (k := ((2 * ((itD (v1197) (2)) % rows')) + (x1608 / 2))) w1639 g1638
            have h1647 := (e1626 _ _ h1592)
            obtain ⟨b1648, vs1649, L1650, rfl, rfl, h1651, w1652, nb1653⟩ := Ow.toList w1643
            refine ⟨_, rfl, _, rfl, _, _, rfl, rfl, (.inl ⟨by decide, by decide⟩), _, rfl, _, _, rfl, rfl, (divW_lit (by decide) (by decide)), _, _, rfl, rfl, _, _, _, _, rfl, rfl, (SqL.of h1647), a1642, _, rfl, _, _, rfl, rfl, (.inl ⟨by decide, by decide⟩), _, rfl, .inl ⟨_, rfl, ?_⟩⟩
            obtain ⟨g1654, hw⟩ := cW_grd hw
            refine ⟨_, _, rfl, rfl, (show (0 : Int) < 2 by decide), _, _, rfl, rfl, _, _, _, _, rfl, rfl, h1651, (ixN_len w1652.lenM g1654), ?_⟩
            obtain ⟨L1655, hL1656, w1657⟩ := OwAll.setM w1652 g1654 (Ow.frz r1637) (all_nil : ∀ b ∈ ([] : List Addr), b ∉ L1650)
            generalize g1659 : upd H1625 b1648 _ = H1660
            obtain ⟨x1661, h1662⟩ := gen_mut g1659
            have h1663 : H1660 b1648 = some (.lst ((vs1649).set ((ixN (vs1649).length (((2 * ((itD (v1197) (1)) % columns')) + (x1608 % 2)))).getD 0) (v1635))) := h1662
            have S1664 := S1630.mut1 x1661 ((((fun b hb => (.tail _ (.tail _ (.tail _ (.tail _ (.tail _ (.tail _ (.tail _ (List.mem_append_right _ (List.mem_append_left _ hb)))))))))) : ∀ b ∈ L1578, b ∈ (p1622 :: (p_actual :: (l_actual_lines :: (a_grid :: (p1200 :: (D1219 :: (p1374 :: (L_actual_lines ++ (L1578 ++ [])))))))))) : ∀ b ∈ L1578, b ∈ (p1622 :: (p_actual :: (l_actual_lines :: (a_grid :: (p1200 :: (D1219 :: (p1374 :: (L_actual_lines ++ (L1578 ++ [])))))))))) _ (hs1644 _ List.mem_cons_self)) h1663
            have w1658 : OwAll G1606 H1660 L1655 ((vs1649).set ((ixN (vs1649).length (((2 * ((itD (v1197) (1)) % columns')) + (x1608 % 2)))).getD 0) (v1635)) ((setL ((itD (grid_1576) (((2 * ((itD (v1197) (2)) % rows')) + (x1608 / 2))))) (((2 * ((itD (v1197) (1)) % columns')) + (x1608 % 2))) ((itD ([(encN (())), (itD (acc1285) (0)), (itD (acc1285) (x1608))]) ((itD (v1197) (0))))) : (List PyData)).map (oF encD)) := OwAll.mono (Same.refl _) (keeps_mut x1661 ((fun b hb => ((all_app nb1653 all_nil) : ∀ b ∈ (L1650 ++ ([] : List Addr)), b ≠ b1648) b (hL1656 b hb)) : ∀ b ∈ L1655, b ≠ b1648)) w1657
            obtain ⟨L1665, hL1666, w1667⟩ := gr1646 H1660 _ ([] : List Addr) (b1648 :: L1655) (grow_keeps (Same.refl _) x1661 List.mem_cons_self) (grow_sub hL1656) (all_nil : ∀ b ∈ ([] : List Addr), b ∉ L1578) (Ow.list h1663 w1658 ((fun b hb => ((all_app nb1653 all_nil) : ∀ b ∈ (L1650 ++ ([] : List Addr)), b ≠ b1648) b (hL1656 b hb)) : ∀ b ∈ L1655, b ≠ b1648))
            have w1668 : OwAll G1606 H1660 L1665 (vs1577) ((setL (grid_1576) (((2 * ((itD (v1197) (2)) % rows')) + (x1608 / 2))) (setL ((itD (grid_1576) (((2 * ((itD (v1197) (2)) % rows')) + (x1608 / 2))))) (((2 * ((itD (v1197) (1)) % columns')) + (x1608 % 2))) ((itD ([(encN (())), (itD (acc1285) (0)), (itD (acc1285) (x1608))]) ((itD (v1197) (0)))))) : (List (List PyData))).map (oL (oF encD))) := w1667
            have hw := cW_bnd hw
            have hw := cW_ok hw
            have hw := hK1611 _ hw
            have h1670 := (x1661 _ _ (e1626 _ _ h1590) (ne1596 _ (hs1644 _ List.mem_cons_self)).symm)
            have h1671 := (x1661 _ _ (e1626 _ _ h1591) (ne1597 _ (hs1644 _ List.mem_cons_self)).symm)
            have h1672 := (x1661 _ _ h1647 (ne1598 _ (hs1644 _ List.mem_cons_self)).symm)
            have h1673 := (x1661 _ _ h1633 (ne1599 _ (hs1644 _ List.mem_cons_self)).symm)
            have h1674 := (x1661 _ _ (e1626 _ _ h1594) (ne1600 _ (hs1644 _ List.mem_cons_self)).symm)
            have h1675 := (x1661 _ _ (e1626 _ _ h1595) (ne1601 _ (hs1644 _ List.mem_cons_self)).symm)
            have w1676 : OwAll G1606 H1660 L_actual_lines (vs_actual_lines) ((actual'.lines : (List (List PyData))).map (oL (oF encD))) := (OwAll.mono (Same.refl _) (keeps_mut x1661 ((fun b hb z => (fun b hb => ((nl_symm ne1602) b hb)) b hb (z ▸ (hs1644 _ List.mem_cons_self))) : ∀ b ∈ L_actual_lines, b ≠ b1648)) (OwAll.mono (Same.refl _) (keeps_same e1626) w1603))
            exact ⟨(setL (grid_1576) (((2 * ((itD (v1197) (2)) % rows')) + (x1608 / 2))) (setL ((itD (grid_1576) (((2 * ((itD (v1197) (2)) % rows')) + (x1608 / 2))))) (((2 * ((itD (v1197) (1)) % columns')) + (x1608 % 2))) ((itD ([(encN (())), (itD (acc1285) (0)), (itD (acc1285) (x1608))]) ((itD (v1197) (0))))))), (vs1577), L1665, _, _, _, rfl, eG1607, (S1664.sub (all_cons (.tail _ (.head _)) (all_cons (.tail _ (.tail _ (.head _))) (all_cons (.tail _ (.tail _ (.tail _ (.head _)))) (all_cons (.tail _ (.tail _ (.tail _ (.tail _ (.head _))))) (all_cons (.tail _ (.tail _ (.tail _ (.tail _ (.tail _ (.head _)))))) (all_cons (.tail _ (.tail _ (.tail _ (.tail _ (.tail _ (.tail _ (.head _))))))) (all_app ((fun b hb => (.tail _ (.tail _ (.tail _ (.tail _ (.tail _ (.tail _ (.tail _ (List.mem_append_left _ hb))))))))) : ∀ b ∈ L_actual_lines, b ∈ (p1622 :: (p_actual :: (l_actual_lines :: (a_grid :: (p1200 :: (D1219 :: (p1374 :: (L_actual_lines ++ (L1578 ++ [])))))))))) (all_app (fun b hb => ((all_app ((fun b hb => (.tail _ (.tail _ (.tail _ (.tail _ (.tail _ (.tail _ (.tail _ (List.mem_append_right _ (List.mem_append_left _ hb)))))))))) : ∀ b ∈ L1578, b ∈ (p1622 :: (p_actual :: (l_actual_lines :: (a_grid :: (p1200 :: (D1219 :: (p1374 :: (L_actual_lines ++ (L1578 ++ [])))))))))) all_nil) : ∀ b ∈ (L1578 ++ ([] : List Addr)), b ∈ (p1622 :: (p_actual :: (l_actual_lines :: (a_grid :: (p1200 :: (D1219 :: (p1374 :: (L_actual_lines ++ (L1578 ++ [])))))))))) b (hL1666 b hb)) all_nil))))))))), h1670, h1671, h1672, h1673, h1674, h1675, (fun b hb => ((all_app ne1596 all_nil) : ∀ b ∈ (L1578 ++ ([] : List Addr)), b ≠ p_actual) b (hL1666 b hb)), (fun b hb => ((all_app ne1597 all_nil) : ∀ b ∈ (L1578 ++ ([] : List Addr)), b ≠ l_actual_lines) b (hL1666 b hb)), (fun b hb => ((all_app ne1598 all_nil) : ∀ b ∈ (L1578 ++ ([] : List Addr)), b ≠ a_grid) b (hL1666 b hb)), (fun b hb => ((all_app ne1599 all_nil) : ∀ b ∈ (L1578 ++ ([] : List Addr)), b ≠ p1200) b (hL1666 b hb)), (fun b hb => ((all_app ne1600 all_nil) : ∀ b ∈ (L1578 ++ ([] : List Addr)), b ≠ D1219) b (hL1666 b hb)), (fun b hb => ((all_app ne1601 all_nil) : ∀ b ∈ (L1578 ++ ([] : List Addr)), b ≠ p1374) b (hL1666 b hb)), (fun c hc => ((all_app ne1602 all_nil) : ∀ c ∈ (L1578 ++ ([] : List Addr)), c ∉ L_actual_lines) c (hL1666 c hc)), w1676, w1668, ((fun b hb => ((all_app (fun b hb => (hs1605 b hb).elim (((fun b hb => .inl hb) : ∀ b ∈ L_grid, b ∈ L_grid ∨ H b = none) b) (fun z => .inr (S0.free z))) all_nil) : ∀ b ∈ (L1578 ++ ([] : List Addr)), b ∈ L_grid ∨ H b = none) b (hL1666 b hb)) : ∀ b ∈ L1665, b ∈ L_grid ∨ H b = none), hw⟩
          · intro σ H1677 hw
            obtain ⟨grid_1576, vs1577, L1578, u1579, u1580, G1695, rfl, eG1696, S1678, h1679, h1680, h1681, h1682, h1683, h1684, ne1685, ne1686, ne1687, ne1688, ne1689, ne1690, ne1691, w1692, w1693, hs1694, hw⟩ := hw
            have hw := hK1575 _ (cW_forS0 (rng_len _ _).symm hw)
            have hw : cW (F__law_keep_r4 (actual') (((itD (v1197) (1)) % columns')) (((itD (v1197) (2)) % rows')) (cutL (acc1285) none (some (1))) (grid_1576)) _ EE := hw
            unfold F__law_keep_r4 at hw
            refine ⟨_, rfl, _, _, _, rfl, h1679, rfl, _, rfl, _, rfl, _, rfl, rfl, rfl, G1695, _, _, _, _, L_actual_lines, actual', _, _, _, (some (cutL (acc1285) none (some (1)))), rfl, S1678.sG, (S1678.gno (all_cons (.head _) (all_cons (.tail _ (.head _)) (all_app ((fun b hb => (.tail _ (.tail _ (.tail _ (.tail _ (.tail _ (.tail _ (List.mem_append_left _ hb)))))))) : ∀ b ∈ L_actual_lines, b ∈ (p_actual :: (l_actual_lines :: (a_grid :: (p1200 :: (D1219 :: (p1374 :: (L_actual_lines ++ (L1578 ++ []))))))))) all_nil)))), h1679, h1680, w1692, (nw_actual_lines_0 : ∀ b ∈ L_actual_lines, b ≠ p_actual), (nw_actual_lines_1 : ∀ b ∈ L_actual_lines, b ≠ l_actual_lines), ⟨_, _, rfl, ((hideL_out (nm_cons (ne_of_none h1293 n1375).symm (nm_cons (ne_of_none h1294 n1375).symm (nm_app (fun z => (there_ne (fun b_ hb_ => (S1281.ow b_ (((fun b hb => (.tail _ (.tail _ (.tail _ (.tail _ (.tail _ (List.mem_append_right _ (List.mem_append_left _ hb)))))))) : ∀ b ∈ L_actual_lines, b ∈ (D1219 :: (a_grid :: (p_actual :: (l_actual_lines :: (p1200 :: (L_grid ++ (L_actual_lines ++ [])))))))) b_ hb_)).2.1) n1375) _ z rfl) nm_nil)))).trans h1684), (RpAll.mono eG1696 d1383)⟩, cW_callN hw (fun v1698 hw H1702 G1705 vs1712 L1713 x1703 eG1706 sG1707 hn1708 pm1709 h1710 h1711 hs1714 gl1715 ne1717 ne1718 w1716 => ?_) trivial⟩
            have S1704 : Sep _ _ _ G1705 H1702 (L1713 ++ (p_actual :: (l_actual_lines :: (a_grid :: (p1200 :: (D1219 :: (p1374 :: (L1578 ++ [])))))))) := Sep.mutgrow S1678 x1703 (all_cons (.head _) (all_cons (.tail _ (.head _)) (all_app ((fun b hb => (.tail _ (.tail _ (.tail _ (.tail _ (.tail _ (.tail _ (List.mem_append_left _ hb)))))))) : ∀ b ∈ L_actual_lines, b ∈ (p_actual :: (l_actual_lines :: (a_grid :: (p1200 :: (D1219 :: (p1374 :: (L_actual_lines ++ (L1578 ++ []))))))))) all_nil))) pm1709 eG1706 sG1707 hn1708 (all_app (fun b hb => (hs1714 b hb).elim (fun z => .inl ((((fun b hb => (.tail _ (.tail _ (.tail _ (.tail _ (.tail _ (.tail _ (List.mem_append_left _ hb)))))))) : ∀ b ∈ L_actual_lines, b ∈ (p_actual :: (l_actual_lines :: (a_grid :: (p1200 :: (D1219 :: (p1374 :: (L_actual_lines ++ (L1578 ++ []))))))))) : ∀ b ∈ L_actual_lines, b ∈ (p_actual :: (l_actual_lines :: (a_grid :: (p1200 :: (D1219 :: (p1374 :: (L_actual_lines ++ (L1578 ++ []))))))))) b z)) (fun z => .inr ⟨z, gl1715 b hb, OwAll.there w1716 b hb⟩)) (all_cons (.inl (.head _)) (all_cons (.inl (.tail _ (.head _))) (all_cons (.inl (.tail _ (.tail _ (.head _)))) (all_cons (.inl (.tail _ (.tail _ (.tail _ (.head _))))) (all_cons (.inl (.tail _ (.tail _ (.tail _ (.tail _ (.head _)))))) (all_cons (.inl (.tail _ (.tail _ (.tail _ (.tail _ (.tail _ (.head _))))))) (all_app (fun b hb => .inl (((fun b hb => (.tail _ (.tail _ (.tail _ (.tail _ (.tail _ (.tail _ (List.mem_append_right _ (List.mem_append_left _ hb))))))))) : ∀ b ∈ L1578, b ∈ (p_actual :: (l_actual_lines :: (a_grid :: (p1200 :: (D1219 :: (p1374 :: (L_actual_lines ++ (L1578 ++ []))))))))) b hb)) all_nil))))))))
            refine ⟨fun σ H' => ∃ (u1723 : Option V) (G' : Hp), σ = [some (V.ref p_actual), some (V.ref a_grid), some (V.int (cell')), some (V.int (columns')), some (V.int (rows')), some (V.ref p1200), some (V.int (((itD (v1197) (1)) % columns'))), some (V.int (((itD (v1197) (2)) % rows'))), some (V.int ((1 + (itD (v1197) (3))))), some (V.ref D1219), u1723, u1579, u1580] ∧ Same G1705 G' ∧ Sep (p_actual :: (l_actual_lines :: (L_actual_lines ++ (a_grid :: (L_grid ++ []))))) H G G' H' (p_actual :: (l_actual_lines :: (a_grid :: (p1200 :: (D1219 :: (L1713 ++ (L1578 ++ []))))))) ∧ H' p_actual = some (.ins AD.c_MotionGrid dx_actual [("_width", V.int (v1698.width)), ("_height", V.int (v1698.height)), ("_lines", V.ref l_actual_lines)]) ∧ H' l_actual_lines = some (.lst (vs1712)) ∧ H' a_grid = some (.lst (vs1577)) ∧ H' p1200 = some (.lst ((v1197 : (List Int)).map V.int)) ∧ H' D1219 = some (.lst (vs1286)) ∧ OwAll G' H' L1713 (vs1712) ((v1698.lines : (List (List PyData))).map (oL (oF encD))) ∧ OwAll G' H' L1578 (vs1577) ((grid_1576 : (List (List PyData))).map (oL (oF encD))) ∧ cW (F__law_keep_k5 (v1698) (grid_1576) ) KK EE, ?_, ?_⟩
            · obtain ⟨K1724, hK1725, hw⟩ := cW_push hw
              have h1726 := (x1703 _ _ h1684 (nm_cons (ne_of_none h1293 n1375).symm (nm_cons (ne_of_none h1294 n1375).symm (nm_app (fun z => (there_ne (fun b_ hb_ => (S1281.ow b_ (((fun b hb => (.tail _ (.tail _ (.tail _ (.tail _ (.tail _ (List.mem_append_right _ (List.mem_append_left _ hb)))))))) : ∀ b ∈ L_actual_lines, b ∈ (D1219 :: (a_grid :: (p_actual :: (l_actual_lines :: (p1200 :: (L_grid ++ (L_actual_lines ++ [])))))))) b_ hb_)).2.1) n1375) _ z rfl) nm_nil))))
              refine ⟨_, rfl, ((encL encD) (cutL (acc1285) none (some (1)))), rfl, (rp_mk_list h1726 (RpAll.mono S1704.sG (RpAll.mono eG1706 (RpAll.mono eG1696 d1383)))), _, rfl, ?_⟩
              refine iteT ?_
              refine ⟨_, rfl, (.inl ⟨rfl, _, SqL.of h1726⟩), ?_⟩
              have r1727 : Rp G1705 (V.non) (encD (encN (()))) := .non
              obtain ⟨g1728, hw⟩ := cW_grd hw
              refine ⟨_, _, _, rfl, rfl, h1726, (app_len (RpAll.mono eG1706 (RpAll.mono eG1696 d1383)) g1728), ?_⟩
              generalize g1729 : upd H1702 p1374 _ = H1730
              obtain ⟨x1731, h1732⟩ := gen_mut g1729
              have h1733 : H1730 p1374 = some (.lst (cutV (vs1286) none (some (1)) ++ [(V.non)])) := h1732
              have S1734 := S1704.mut1 x1731 (List.mem_append_right _ (.tail _ (.tail _ (.tail _ (.tail _ (.tail _ (.head _))))))) h1733
              have d1735 : RpAll G1705 (cutV (vs1286) none (some (1)) ++ [(V.non)]) (((cutL (acc1285) none (some (1))) ++ [(encN (()))] : (List PyData)).map encD) := app_map (RpAll.mono eG1706 (RpAll.mono eG1696 d1383)) (RpAll.one r1727)
              have hw := cW_bnd hw
              refine ⟨(by show 2 ≤ sizeLine; decide), fun p1737 n1738 => ?_⟩
              generalize g1739 : upd H1730 p1737 _ = H1740
              obtain ⟨e1741, h1742⟩ := gen_new n1738 g1739
              have h1743 : H1740 p1737 = some (.tup [V.int (77), V.int (77)]) := h1742
              have fr1744 := S1734.free n1738
              obtain ⟨G1746, eG1747, hg1748, S1745⟩ := S1734.grow n1738 e1741 h1743 fr1744
              refine ⟨(by show 4 ≤ sizeLine; decide), fun p1749 n1750 => ?_⟩
              generalize g1751 : upd H1740 p1749 _ = H1752
              obtain ⟨e1753, h1754⟩ := gen_new n1750 g1751
              have h1755 : H1752 p1749 = some (.tup [V.int (0), V.int (0), V.ref p1737, V.non]) := h1754
              have fr1756 := S1745.free n1750
              obtain ⟨G1758, eG1759, hg1760, S1757⟩ := S1745.grow n1750 e1753 h1755 fr1756
              refine ⟨_, rfl, ?_⟩
              have r1761 : Rp G1758 (V.ref p1749) (encD ((encT4 PyData.int PyData.int (encT2 PyData.int PyData.int) encN) ((0, 0, (77, 77), ())))) := (rp_mk4 hg1760 (.int _) (.int _) (rp_mk2 (eG1759 _ _ hg1748) (.int _) (.int _)) .non)
              obtain ⟨g1762, hw⟩ := cW_grd hw
              have h1763 := (e1753 _ _ (e1741 _ _ h1733))
              refine ⟨_, _, _, _, rfl, rfl, h1763, (ixN_len (by rw [RpAll.len (RpAll.mono eG1759 (RpAll.mono eG1747 d1735)), List.length_map]) g1762), ?_⟩
              generalize g1764 : upd H1752 p1374 _ = H1765
              obtain ⟨x1766, h1767⟩ := gen_mut g1764
              have h1768 : H1765 p1374 = some (.lst ((cutV (vs1286) none (some (1)) ++ [(V.non)]).set ((ixN (cutV (vs1286) none (some (1)) ++ [(V.non)]).length (0)).getD 0) ((V.ref p1749)))) := h1767
              have S1769 := S1757.mut1 x1766 (List.mem_append_right _ (.tail _ (.tail _ (.tail _ (.tail _ (.tail _ (.head _))))))) h1768
              have d1770 : RpAll G1758 ((cutV (vs1286) none (some (1)) ++ [(V.non)]).set ((ixN (cutV (vs1286) none (some (1)) ++ [(V.non)]).length (0)).getD 0) ((V.ref p1749))) ((setL ((cutL (acc1285) none (some (1))) ++ [(encN (()))]) (0) (((encT4 PyData.int PyData.int (encT2 PyData.int PyData.int) encN) ((0, 0, (77, 77), ())))) : (List PyData)).map encD) := RpAll.setM (RpAll.mono eG1759 (RpAll.mono eG1747 d1735)) r1761
              have hw := cW_bnd hw
              have hw := cW_ok hw
              have hw := hK1725 _ hw
              have h1772 := (x1766 _ _ (e1753 _ _ (e1741 _ _ (x1731 _ _ h1710 (ne_of_none h1293 n1375)))) (ne_of_none h1293 n1375))
              have h1773 := (x1766 _ _ (e1753 _ _ (e1741 _ _ (x1731 _ _ h1711 (ne_of_none h1294 n1375)))) (ne_of_none h1294 n1375))
              have h1774 := (x1766 _ _ (e1753 _ _ (e1741 _ _ (x1731 _ _ (x1703 _ _ h1681 (nm_cons (nx_0).symm (nm_cons (nx_2).symm (nm_app (fun z => nx_4 _ z rfl) nm_nil)))) (ne_of_none h1292 n1375)))) (ne_of_none h1292 n1375))
              have h1775 := (x1766 _ _ (e1753 _ _ (e1741 _ _ (x1731 _ _ (x1703 _ _ h1682 (nm_cons (ne_of_none (e1192 _ _ h_p_actual) n1201).symm (nm_cons (ne_of_none (e1192 _ _ h_l_actual_lines) n1201).symm (nm_app (fun z => (there_ne (fun b_ hb_ => (S1196.ow b_ (((fun b hb => (.tail _ (.tail _ (.tail _ (List.mem_append_left _ hb))))) : ∀ b ∈ L_actual_lines, b ∈ (p1188 :: (p_actual :: (l_actual_lines :: (L_actual_lines ++ (a_grid :: (L_grid ++ []))))))) b_ hb_)).2.1) n1201) _ z rfl) nm_nil)))) (ne_of_none h1295 n1375)))) (ne_of_none h1295 n1375))
              have h1776 := (x1766 _ _ (e1753 _ _ (e1741 _ _ (x1731 _ _ (x1703 _ _ h1683 (nm_cons (ne_of_none (e1199 _ _ (e1192 _ _ h_p_actual)) n1220).symm (nm_cons (ne_of_none (e1199 _ _ (e1192 _ _ h_l_actual_lines)) n1220).symm (nm_app (fun z => (there_ne (fun b_ hb_ => (S1205.ow b_ (((fun b hb => (.tail _ (.tail _ (.tail _ (.tail _ (List.mem_append_left _ hb)))))) : ∀ b ∈ L_actual_lines, b ∈ (p1200 :: (p1188 :: (p_actual :: (l_actual_lines :: (L_actual_lines ++ (a_grid :: (L_grid ++ [])))))))) b_ hb_)).2.1) n1220) _ z rfl) nm_nil)))) (ne_of_none h1282 n1375)))) (ne_of_none h1282 n1375))
              have w1777 : OwAll G1758 H1765 L1713 (vs1712) ((v1698.lines : (List (List PyData))).map (oL (oF encD))) := (OwAll.mono (Same.trans eG1747 eG1759) keeps_refl (OwAll.mono (Same.refl _) (keeps_mut x1766 ((grown_ne hs1714 ((there_ne (fun b_ hb_ => (S1281.ow b_ (((fun b hb => (.tail _ (.tail _ (.tail _ (.tail _ (.tail _ (List.mem_append_right _ (List.mem_append_left _ hb)))))))) : ∀ b ∈ L_actual_lines, b ∈ (D1219 :: (a_grid :: (p_actual :: (l_actual_lines :: (p1200 :: (L_grid ++ (L_actual_lines ++ [])))))))) b_ hb_)).2.1) n1375) : ∀ b ∈ L_actual_lines, b ≠ p1374) (S1678.ow _ (.tail _ (.tail _ (.tail _ (.tail _ (.tail _ (.head _))))))).2.1) : ∀ b ∈ L1713, b ≠ p1374)) (OwAll.mono (Same.refl _) (keeps_same e1753) (OwAll.mono (Same.refl _) (keeps_same e1741) (OwAll.mono (Same.refl _) (keeps_mut x1731 ((grown_ne hs1714 ((there_ne (fun b_ hb_ => (S1281.ow b_ (((fun b hb => (.tail _ (.tail _ (.tail _ (.tail _ (.tail _ (List.mem_append_right _ (List.mem_append_left _ hb)))))))) : ∀ b ∈ L_actual_lines, b ∈ (D1219 :: (a_grid :: (p_actual :: (l_actual_lines :: (p1200 :: (L_grid ++ (L_actual_lines ++ [])))))))) b_ hb_)).2.1) n1375) : ∀ b ∈ L_actual_lines, b ≠ p1374) (S1678.ow _ (.tail _ (.tail _ (.tail _ (.tail _ (.tail _ (.head _))))))).2.1) : ∀ b ∈ L1713, b ≠ p1374)) w1716)))))
              have w1778 : OwAll G1758 H1765 L1578 (vs1577) ((grid_1576 : (List (List PyData))).map (oL (oF encD))) := (OwAll.mono (Same.trans (Same.trans eG1706 eG1747) eG1759) keeps_refl (OwAll.mono (Same.refl _) (keeps_mut x1766 (ne1690 : ∀ b ∈ L1578, b ≠ p1374)) (OwAll.mono (Same.refl _) (keeps_same e1753) (OwAll.mono (Same.refl _) (keeps_same e1741) (OwAll.mono (Same.refl _) (keeps_mut x1731 (ne1690 : ∀ b ∈ L1578, b ≠ p1374)) (OwAll.mono (Same.refl _) (keeps_muts x1703 ((fun b hb => (nm_cons (ne1685 b hb) (nm_cons (ne1686 b hb) (nm_app ((fun b hb => (ne1691 b hb)) b hb) nm_nil)))) : ∀ b ∈ L1578, b ∉ (p_actual :: (l_actual_lines :: (L_actual_lines ++ []))))) w1693))))))
              exact ⟨_, _, rfl, (Same.trans eG1747 eG1759), (S1769.sub (all_cons (List.mem_append_right _ (.head _)) (all_cons (List.mem_append_right _ (.tail _ (.head _))) (all_cons (List.mem_append_right _ (.tail _ (.tail _ (.head _)))) (all_cons (List.mem_append_right _ (.tail _ (.tail _ (.tail _ (.head _))))) (all_cons (List.mem_append_right _ (.tail _ (.tail _ (.tail _ (.tail _ (.head _)))))) (all_app ((fun b hb => (List.mem_append_left _ hb)) : ∀ b ∈ L1713, b ∈ (L1713 ++ (p_actual :: (l_actual_lines :: (a_grid :: (p1200 :: (D1219 :: (p1374 :: (L1578 ++ []))))))))) (all_app ((fun b hb => (List.mem_append_right _ (.tail _ (.tail _ (.tail _ (.tail _ (.tail _ (.tail _ (List.mem_append_left _ hb))))))))) : ∀ b ∈ L1578, b ∈ (L1713 ++ (p_actual :: (l_actual_lines :: (a_grid :: (p1200 :: (D1219 :: (p1374 :: (L1578 ++ []))))))))) all_nil)))))))), h1772, h1773, h1774, h1775, h1776, w1777, w1778, hw⟩
            · intro σ H1779 hw
              obtain ⟨u1723, G1788, rfl, eG1789, S1780, h1781, h1782, h1783, h1784, h1785, w1786, w1787, hw⟩ := hw
              unfold F__law_keep_k5 at hw
              have hw := cW_ok hw
              exact hK0 _ hw _ _ _ L1713 _ L1578 S1780.base S1780.g0 S1780.sG S1780.gn S1780.pm h1781 h1782 h1783 ((fun b hb => (hs1714 b hb).elim (((fun b hb => .inl hb) : ∀ b ∈ L_actual_lines, b ∈ L_actual_lines ∨ H b = none) b) (fun z => .inr (S1678.free z))) : ∀ b ∈ L1713, b ∈ L_actual_lines ∨ H b = none) ((fun b hb => (S1780.ow b (((fun b hb => (.tail _ (.tail _ (.tail _ (.tail _ (.tail _ (List.mem_append_left _ hb))))))) : ∀ b ∈ L1713, b ∈ (p_actual :: (l_actual_lines :: (a_grid :: (p1200 :: (D1219 :: (L1713 ++ (L1578 ++ [])))))))) b hb)).1) : ∀ b ∈ L1713, G1788 b = none) ((fun b hb => (hs1694 b hb).elim (((fun b hb => .inl hb) : ∀ b ∈ L_grid, b ∈ L_grid ∨ H b = none) b) (fun z => .inr (S0.free z))) : ∀ b ∈ L1578, b ∈ L_grid ∨ H b = none) ((fun b hb => (S1780.ow b (((fun b hb => (.tail _ (.tail _ (.tail _ (.tail _ (.tail _ (List.mem_append_right _ (List.mem_append_left _ hb)))))))) : ∀ b ∈ L1578, b ∈ (p_actual :: (l_actual_lines :: (a_grid :: (p1200 :: (D1219 :: (L1713 ++ (L1578 ++ [])))))))) b hb)).1) : ∀ b ∈ L1578, G1788 b = none) (ne1717 : ∀ b ∈ L1713, b ≠ p_actual) (ne1718 : ∀ b ∈ L1713, b ≠ l_actual_lines) ((grown_ne hs1714 (nx_4 : ∀ b ∈ L_actual_lines, b ≠ a_grid) (S1678.ow _ (.tail _ (.tail _ (.head _)))).2.1) : ∀ b ∈ L1713, b ≠ a_grid) (ne1685 : ∀ b ∈ L1578, b ≠ p_actual) (ne1686 : ∀ b ∈ L1578, b ≠ l_actual_lines) (ne1687 : ∀ b ∈ L1578, b ≠ a_grid) ((fun b hb => ((grown_nl hs1714 ((fun b hb => ((nl_symm ne1691) b hb)) : ∀ b ∈ L_actual_lines, b ∉ L1578) (fun b hb => (S1678.ow b (((fun b hb => (.tail _ (.tail _ (.tail _ (.tail _ (.tail _ (.tail _ (List.mem_append_right _ (List.mem_append_left _ hb))))))))) : ∀ b ∈ L1578, b ∈ (p_actual :: (l_actual_lines :: (a_grid :: (p1200 :: (D1219 :: (p1374 :: (L_actual_lines ++ (L1578 ++ []))))))))) b hb)).2.1)) b hb)) : ∀ b ∈ L1713, b ∉ L1578) w1786 w1787
        · have hw := cW_neg c1565 hw
          have c1790 : ((itD (v1197) (0)) : Int) = 2 := by omega
          refine ⟨_, rfl, _, _, _, _, rfl, rfl, (SqL.of h1394), (atI_map g1393), _, _, _, _, rfl, rfl, (SqL.of h1390), (by rw [c1790]; rfl), ?_⟩
          obtain ⟨K1799, hK1800, hw⟩ := cW_push hw
          refine ⟨_, rfl, (by decide), (by decide), for_range (lo := 0) (n := Int.toNat (4)) (fun i σ H' => ∃ (grid_1801 : (List (List PyData))) (vs1802 : List V) (L1803 : List Addr) (u1804 : Option V) (u1805 : Option V) (G' : Hp), σ = [some (V.ref p_actual), some (V.ref a_grid), some (V.int (cell')), some (V.int (columns')), some (V.int (rows')), some (V.ref p1200), some (V.int (((itD (v1197) (1)) % columns'))), some (V.int (((itD (v1197) (2)) % rows'))), some (V.int ((1 + (itD (v1197) (3))))), some (V.ref D1219), some (V.ref D1219), u1804, u1805] ∧ Same G1283 G' ∧ Sep (p_actual :: (l_actual_lines :: (L_actual_lines ++ (a_grid :: (L_grid ++ []))))) H G G' H' (p_actual :: (l_actual_lines :: (a_grid :: (p1200 :: (D1219 :: (L_actual_lines ++ (L1803 ++ []))))))) ∧ H' p_actual = some (.ins AD.c_MotionGrid dx_actual [("_width", V.int (actual'.width)), ("_height", V.int (actual'.height)), ("_lines", V.ref l_actual_lines)]) ∧ H' l_actual_lines = some (.lst (vs_actual_lines)) ∧ H' a_grid = some (.lst (vs1802)) ∧ H' p1200 = some (.lst ((v1197 : (List Int)).map V.int)) ∧ H' D1219 = some (.lst (vs1286)) ∧ (∀ b ∈ L1803, b ≠ p_actual) ∧ (∀ b ∈ L1803, b ≠ l_actual_lines) ∧ (∀ b ∈ L1803, b ≠ a_grid) ∧ (∀ b ∈ L1803, b ≠ p1200) ∧ (∀ b ∈ L1803, b ≠ D1219) ∧ (∀ b ∈ L1803, b ∉ L_actual_lines) ∧ OwAll G' H' L_actual_lines (vs_actual_lines) ((actual'.lines : (List (List PyData))).map (oL (oF encD))) ∧ OwAll G' H' L1803 (vs1802) ((grid_1801 : (List (List PyData))).map (oL (oF encD))) ∧ (∀ b ∈ L1803, b ∈ L_grid ∨ H b = none) ∧ cW (forS (List.drop i (rng (0) (Int.toNat (4)))) grid_1801 (fun s x => F__law_keep_b6 (v1197) (((itD (v1197) (1)) % columns')) (((itD (v1197) (2)) % rows')) (acc1285) s x)) K1799 EE) ?_ ?_ ?_⟩
          · have h1806 := (e1388 _ _ (e1378 _ _ h1293))
            have h1807 := (e1388 _ _ (e1378 _ _ h1294))
            have h1808 := (e1388 _ _ (e1378 _ _ h1292))
            have h1809 := (e1388 _ _ (e1378 _ _ h1282))
            have w1810 : OwAll G1283 H1387 L_actual_lines (vs_actual_lines) ((actual'.lines : (List (List PyData))).map (oL (oF encD))) := (OwAll.mono (Same.refl _) (keeps_same e1388) (OwAll.mono (Same.refl _) (keeps_same e1378) w1297))
            have w1811 : OwAll G1283 H1387 L_grid (vs_grid) ((grid' : (List (List PyData))).map (oL (oF encD))) := (OwAll.mono (Same.refl _) (keeps_same e1388) (OwAll.mono (Same.refl _) (keeps_same e1378) w1296))
            exact ⟨(grid'), (vs_grid), L_grid, _, _, _, rfl, (Same.refl _), (S1392.sub (all_cons (.tail _ (.tail _ (.tail _ (.tail _ (.head _))))) (all_cons (.tail _ (.tail _ (.tail _ (.tail _ (.tail _ (.head _)))))) (all_cons (.tail _ (.tail _ (.tail _ (.head _)))) (all_cons (.tail _ (.tail _ (.tail _ (.tail _ (.tail _ (.tail _ (.head _))))))) (all_cons (.tail _ (.tail _ (.head _))) (all_app ((fun b hb => (.tail _ (.tail _ (.tail _ (.tail _ (.tail _ (.tail _ (.tail _ (List.mem_append_right _ (List.mem_append_left _ hb)))))))))) : ∀ b ∈ L_actual_lines, b ∈ (p1384 :: (p1374 :: (D1219 :: (a_grid :: (p_actual :: (l_actual_lines :: (p1200 :: (L_grid ++ (L_actual_lines ++ [])))))))))) (all_app ((fun b hb => (.tail _ (.tail _ (.tail _ (.tail _ (.tail _ (.tail _ (.tail _ (List.mem_append_left _ hb))))))))) : ∀ b ∈ L_grid, b ∈ (p1384 :: (p1374 :: (D1219 :: (a_grid :: (p_actual :: (l_actual_lines :: (p1200 :: (L_grid ++ (L_actual_lines ++ [])))))))))) all_nil)))))))), h1806, h1807, h1808, h1394, h1809, nx_1, nx_3, nw_grid_0, (there_ne (fun b_ hb_ => (S1196.ow b_ (((fun b hb => (.tail _ (.tail _ (.tail _ (List.mem_append_right _ (.tail _ (List.mem_append_left _ hb))))))) : ∀ b ∈ L_grid, b ∈ (p1188 :: (p_actual :: (l_actual_lines :: (L_actual_lines ++ (a_grid :: (L_grid ++ []))))))) b_ hb_)).2.1) n1201), (there_ne (fun b_ hb_ => (S1205.ow b_ (((fun b hb => (.tail _ (.tail _ (.tail _ (.tail _ (List.mem_append_right _ (.tail _ (List.mem_append_left _ hb)))))))) : ∀ b ∈ L_grid, b ∈ (p1200 :: (p1188 :: (p_actual :: (l_actual_lines :: (L_actual_lines ++ (a_grid :: (L_grid ++ [])))))))) b_ hb_)).2.1) n1220), (nl_symm nx_5), w1810, w1811, ((fun b hb => .inl hb) : ∀ b ∈ L_grid, b ∈ L_grid ∨ H b = none), hw⟩
          · intro i σ H1812 hi hw
            obtain ⟨grid_1801, vs1802, L1803, u1804, u1805, G1828, rfl, eG1829, S1813, h1814, h1815, h1816, h1817, h1818, ne1819, ne1820, ne1821, ne1822, ne1823, ne1824, w1825, w1826, hs1827, hw⟩ := hw
            have hw := cW_forS (rng_get hi) hw
            generalize (0 + (i : Int)) = x1830 at hw ⊢
            have hw : cW (F__law_keep_b6 (v1197) (((itD (v1197) (1)) % columns')) (((itD (v1197) (2)) % rows')) (acc1285) (grid_1801) (x1830)) _ EE := hw
            unfold F__law_keep_b6 at hw
            obtain ⟨K1832, hK1833, hw⟩ := cW_name hw
            obtain ⟨g1835, hw⟩ := cW_grd hw
            obtain ⟨v1836, a1837, r1838⟩ := RpAll.ixD (k := 0) (RpAll.mono eG1829 d1287) g1835
            obtain ⟨g1839, hw⟩ := cW_grd hw
            obtain ⟨v1840, a1841, r1842⟩ := RpAll.ixD (k := x1830) (RpAll.mono eG1829 d1287) g1839
            refine ⟨_, rfl, _, _, _, _, rfl, rfl, (SqL.of h1818), a1837, _, rfl, _, rfl, _, _, _, _, rfl, rfl, (SqL.of h1818), a1841, ?_⟩
            have r1843 : Rp G1828 (V.non) (encD (encN (()))) := .non
            refine ⟨(by show 3 ≤ sizeLine; decide), fun p1844 n1845 => ?_⟩
            generalize g1846 : upd H1812 p1844 _ = H1847
            obtain ⟨e1848, h1849⟩ := gen_new n1845 g1846
            have h1850 : H1847 p1844 = some (.lst ([(V.non), v1836, v1840])) := h1849
            have fr1851 := S1813.free n1845
            have S1852 := S1813.new n1845 e1848 h1850 fr1851
            have d1853 : RpAll G1828 ([(V.non), v1836, v1840]) (([(encN (())), (itD (acc1285) (0)), (itD (acc1285) (x1830))] : (List PyData)).map encD) := (RpAll.cons r1843 (RpAll.cons r1838 (RpAll.cons r1842 RpAll.nil)))
            obtain ⟨g1854, hw⟩ := cW_grd hw
            have h1855 := (e1848 _ _ h1817)
            obtain ⟨g1856, hw⟩ := cW_grd hw
            obtain ⟨v1857, a1858, r1859⟩ := RpAll.ixD (k := (itD (v1197) (0))) d1853 g1856
            refine ⟨_, rfl, _, _, _, _, rfl, rfl, (SqL.of h1855), (atI_map g1854), _, _, _, _, rfl, rfl, (SqL.of h1850), a1858, _, rfl, ?_⟩
            obtain ⟨g1860, hw⟩ := cW_grd hw
            have w1861 : OwAll G1828 H1847 L1803 (vs1802) ((grid_1801 : (List (List PyData))).map (oL (oF encD))) := (OwAll.mono (Same.refl _) (keeps_same e1848) w1826)
            obtain ⟨v1862, L1863, a1864, w1865, hs1866, up1867, gr1868⟩ := OwAll.partM (k := ((2 * ((itD (v1197) (2)) % rows')) + (x1830 / 2))) w1861 g1860
            have h1869 := (e1848 _ _ h1816)
            obtain ⟨b1870, vs1871, L1872, rfl, rfl, h1873, w1874, nb1875⟩ := Ow.toList w1865
            refine ⟨_, rfl, _, rfl, _, _, rfl, rfl, (.inl ⟨by decide, by decide⟩), _, rfl, _, _, rfl, rfl, (divW_lit (by decide) (by decide)), _, _, rfl, rfl, _, _, _, _, rfl, rfl, (SqL.of h1869), a1864, _, rfl, _, _, rfl, rfl, (.inl ⟨by decide, by decide⟩), _, rfl, .inl ⟨_, rfl, ?_⟩⟩
            obtain ⟨g1876, hw⟩ := cW_grd hw
            refine ⟨_, _, rfl, rfl, (show (0 : Int) < 2 by decide), _, _, rfl, rfl, _, _, _, _, rfl, rfl, h1873, (ixN_len w1874.lenM g1876), ?_⟩
            obtain ⟨L1877, hL1878, w1879⟩ := OwAll.setM w1874 g1876 (Ow.frz r1859) (all_nil : ∀ b ∈ ([] : List Addr), b ∉ L1872)
            generalize g1881 : upd H1847 b1870 _ = H1882
            obtain ⟨x1883, h1884⟩ := gen_mut g1881
            have h1885 : H1882 b1870 = some (.lst ((vs1871).set ((ixN (vs1871).length (((2 * ((itD (v1197) (1)) % columns')) + (x1830 % 2)))).getD 0) (v1857))) := h1884
            have S1886 := S1852.mut1 x1883 ((((fun b hb => (.tail _ (.tail _ (.tail _ (.tail _ (.tail _ (.tail _ (List.mem_append_right _ (List.mem_append_left _ hb))))))))) : ∀ b ∈ L1803, b ∈ (p1844 :: (p_actual :: (l_actual_lines :: (a_grid :: (p1200 :: (D1219 :: (L_actual_lines ++ (L1803 ++ []))))))))) : ∀ b ∈ L1803, b ∈ (p1844 :: (p_actual :: (l_actual_lines :: (a_grid :: (p1200 :: (D1219 :: (L_actual_lines ++ (L1803 ++ []))))))))) _ (hs1866 _ List.mem_cons_self)) h1885
            have w1880 : OwAll G1828 H1882 L1877 ((vs1871).set ((ixN (vs1871).length (((2 * ((itD (v1197) (1)) % columns')) + (x1830 % 2)))).getD 0) (v1857)) ((setL ((itD (grid_1801) (((2 * ((itD (v1197) (2)) % rows')) + (x1830 / 2))))) (((2 * ((itD (v1197) (1)) % columns')) + (x1830 % 2))) ((itD ([(encN (())), (itD (acc1285) (0)), (itD (acc1285) (x1830))]) ((itD (v1197) (0))))) : (List PyData)).map (oF encD)) := OwAll.mono (Same.refl _) (keeps_mut x1883 ((fun b hb => ((all_app nb1875 all_nil) : ∀ b ∈ (L1872 ++ ([] : List Addr)), b ≠ b1870) b (hL1878 b hb)) : ∀ b ∈ L1877, b ≠ b1870)) w1879
            obtain ⟨L1887, hL1888, w1889⟩ := gr1868 H1882 _ ([] : List Addr) (b1870 :: L1877) (grow_keeps (Same.refl _) x1883 List.mem_cons_self) (grow_sub hL1878) (all_nil : ∀ b ∈ ([] : List Addr), b ∉ L1803) (Ow.list h1885 w1880 ((fun b hb => ((all_app nb1875 all_nil) : ∀ b ∈ (L1872 ++ ([] : List Addr)), b ≠ b1870) b (hL1878 b hb)) : ∀ b ∈ L1877, b ≠ b1870))
            have w1890 : OwAll G1828 H1882 L1887 (vs1802) ((setL (grid_1801) (((2 * ((itD (v1197) (2)) % rows')) + (x1830 / 2))) (setL ((itD (grid_1801) (((2 * ((itD (v1197) (2)) % rows')) + (x1830 / 2))))) (((2 * ((itD (v1197) (1)) % columns')) + (x1830 % 2))) ((itD ([(encN (())), (itD (acc1285) (0)), (itD (acc1285) (x1830))]) ((itD (v1197) (0)))))) : (List (List PyData))).map (oL (oF encD))) := w1889
            have hw := cW_bnd hw
            have hw := cW_ok hw
            have hw := hK1833 _ hw
            have h1892 := (x1883 _ _ (e1848 _ _ h1814) (ne1819 _ (hs1866 _ List.mem_cons_self)).symm)
            have h1893 := (x1883 _ _ (e1848 _ _ h1815) (ne1820 _ (hs1866 _ List.mem_cons_self)).symm)
            have h1894 := (x1883 _ _ h1869 (ne1821 _ (hs1866 _ List.mem_cons_self)).symm)
            have h1895 := (x1883 _ _ h1855 (ne1822 _ (hs1866 _ List.mem_cons_self)).symm)
            have h1896 := (x1883 _ _ (e1848 _ _ h1818) (ne1823 _ (hs1866 _ List.mem_cons_self)).symm)
            have w1897 : OwAll G1828 H1882 L_actual_lines (vs_actual_lines) ((actual'.lines : (List (List PyData))).map (oL (oF encD))) := (OwAll.mono (Same.refl _) (keeps_mut x1883 ((fun b hb z => (fun b hb => ((nl_symm ne1824) b hb)) b hb (z ▸ (hs1866 _ List.mem_cons_self))) : ∀ b ∈ L_actual_lines, b ≠ b1870)) (OwAll.mono (Same.refl _) (keeps_same e1848) w1825))
            exact ⟨(setL (grid_1801) (((2 * ((itD (v1197) (2)) % rows')) + (x1830 / 2))) (setL ((itD (grid_1801) (((2 * ((itD (v1197) (2)) % rows')) + (x1830 / 2))))) (((2 * ((itD (v1197) (1)) % columns')) + (x1830 % 2))) ((itD ([(encN (())), (itD (acc1285) (0)), (itD (acc1285) (x1830))]) ((itD (v1197) (0))))))), (vs1802), L1887, _, _, _, rfl, eG1829, (S1886.sub (all_cons (.tail _ (.head _)) (all_cons (.tail _ (.tail _ (.head _))) (all_cons (.tail _ (.tail _ (.tail _ (.head _)))) (all_cons (.tail _ (.tail _ (.tail _ (.tail _ (.head _))))) (all_cons (.tail _ (.tail _ (.tail _ (.tail _ (.tail _ (.head _)))))) (all_app ((fun b hb => (.tail _ (.tail _ (.tail _ (.tail _ (.tail _ (.tail _ (List.mem_append_left _ hb)))))))) : ∀ b ∈ L_actual_lines, b ∈ (p1844 :: (p_actual :: (l_actual_lines :: (a_grid :: (p1200 :: (D1219 :: (L_actual_lines ++ (L1803 ++ []))))))))) (all_app (fun b hb => ((all_app ((fun b hb => (.tail _ (.tail _ (.tail _ (.tail _ (.tail _ (.tail _ (List.mem_append_right _ (List.mem_append_left _ hb))))))))) : ∀ b ∈ L1803, b ∈ (p1844 :: (p_actual :: (l_actual_lines :: (a_grid :: (p1200 :: (D1219 :: (L_actual_lines ++ (L1803 ++ []))))))))) all_nil) : ∀ b ∈ (L1803 ++ ([] : List Addr)), b ∈ (p1844 :: (p_actual :: (l_actual_lines :: (a_grid :: (p1200 :: (D1219 :: (L_actual_lines ++ (L1803 ++ []))))))))) b (hL1888 b hb)) all_nil)))))))), h1892, h1893, h1894, h1895, h1896, (fun b hb => ((all_app ne1819 all_nil) : ∀ b ∈ (L1803 ++ ([] : List Addr)), b ≠ p_actual) b (hL1888 b hb)), (fun b hb => ((all_app ne1820 all_nil) : ∀ b ∈ (L1803 ++ ([] : List Addr)), b ≠ l_actual_lines) b (hL1888 b hb)), (fun b hb => ((all_app ne1821 all_nil) : ∀ b ∈ (L1803 ++ ([] : List Addr)), b ≠ a_grid) b (hL1888 b hb)), (fun b hb => ((all_app ne1822 all_nil) : ∀ b ∈ (L1803 ++ ([] : List Addr)), b ≠ p1200) b (hL1888 b hb)), (fun b hb => ((all_app ne1823 all_nil) : ∀ b ∈ (L1803 ++ ([] : List Addr)), b ≠ D1219) b (hL1888 b hb)), (fun c hc => ((all_app ne1824 all_nil) : ∀ c ∈ (L1803 ++ ([] : List Addr)), c ∉ L_actual_lines) c (hL1888 c hc)), w1897, w1890, ((fun b hb => ((all_app (fun b hb => (hs1827 b hb).elim (((fun b hb => .inl hb) : ∀ b ∈ L_grid, b ∈ L_grid ∨ H b = none) b) (fun z => .inr (S0.free z))) all_nil) : ∀ b ∈ (L1803 ++ ([] : List Addr)), b ∈ L_grid ∨ H b = none) b (hL1888 b hb)) : ∀ b ∈ L1887, b ∈ L_grid ∨ H b = none), hw⟩
          · intro σ H1898 hw
            obtain ⟨grid_1801, vs1802, L1803, u1804, u1805, G1914, rfl, eG1915, S1899, h1900, h1901, h1902, h1903, h1904, ne1905, ne1906, ne1907, ne1908, ne1909, ne1910, w1911, w1912, hs1913, hw⟩ := hw
            have hw := hK1800 _ (cW_forS0 (rng_len _ _).symm hw)
            have hw : cW (F__law_keep_r6 (actual') (((itD (v1197) (1)) % columns')) (((itD (v1197) (2)) % rows')) (acc1285) (grid_1801)) _ EE := hw
            unfold F__law_keep_r6 at hw
            refine ⟨_, rfl, _, _, _, rfl, h1900, rfl, _, rfl, _, rfl, _, rfl, rfl, rfl, G1914, _, _, _, _, L_actual_lines, actual', _, _, _, (some (acc1285)), rfl, S1899.sG, (S1899.gno (all_cons (.head _) (all_cons (.tail _ (.head _)) (all_app ((fun b hb => (.tail _ (.tail _ (.tail _ (.tail _ (.tail _ (List.mem_append_left _ hb))))))) : ∀ b ∈ L_actual_lines, b ∈ (p_actual :: (l_actual_lines :: (a_grid :: (p1200 :: (D1219 :: (L_actual_lines ++ (L1803 ++ [])))))))) all_nil)))), h1900, h1901, w1911, (nw_actual_lines_0 : ∀ b ∈ L_actual_lines, b ≠ p_actual), (nw_actual_lines_1 : ∀ b ∈ L_actual_lines, b ≠ l_actual_lines), ⟨_, _, rfl, ((hideL_out (nm_cons (ne_of_none (e1199 _ _ (e1192 _ _ h_p_actual)) n1220).symm (nm_cons (ne_of_none (e1199 _ _ (e1192 _ _ h_l_actual_lines)) n1220).symm (nm_app (fun z => (there_ne (fun b_ hb_ => (S1205.ow b_ (((fun b hb => (.tail _ (.tail _ (.tail _ (.tail _ (List.mem_append_left _ hb)))))) : ∀ b ∈ L_actual_lines, b ∈ (p1200 :: (p1188 :: (p_actual :: (l_actual_lines :: (L_actual_lines ++ (a_grid :: (L_grid ++ [])))))))) b_ hb_)).2.1) n1220) _ z rfl) nm_nil)))).trans h1904), (RpAll.mono eG1915 d1287)⟩, cW_callN hw (fun v1917 hw H1921 G1924 vs1931 L1932 x1922 eG1925 sG1926 hn1927 pm1928 h1929 h1930 hs1933 gl1934 ne1936 ne1937 w1935 => ?_) trivial⟩
            have S1923 : Sep _ _ _ G1924 H1921 (L1932 ++ (p_actual :: (l_actual_lines :: (a_grid :: (p1200 :: (D1219 :: (L1803 ++ []))))))) := Sep.mutgrow S1899 x1922 (all_cons (.head _) (all_cons (.tail _ (.head _)) (all_app ((fun b hb => (.tail _ (.tail _ (.tail _ (.tail _ (.tail _ (List.mem_append_left _ hb))))))) : ∀ b ∈ L_actual_lines, b ∈ (p_actual :: (l_actual_lines :: (a_grid :: (p1200 :: (D1219 :: (L_actual_lines ++ (L1803 ++ [])))))))) all_nil))) pm1928 eG1925 sG1926 hn1927 (all_app (fun b hb => (hs1933 b hb).elim (fun z => .inl ((((fun b hb => (.tail _ (.tail _ (.tail _ (.tail _ (.tail _ (List.mem_append_left _ hb))))))) : ∀ b ∈ L_actual_lines, b ∈ (p_actual :: (l_actual_lines :: (a_grid :: (p1200 :: (D1219 :: (L_actual_lines ++ (L1803 ++ [])))))))) : ∀ b ∈ L_actual_lines, b ∈ (p_actual :: (l_actual_lines :: (a_grid :: (p1200 :: (D1219 :: (L_actual_lines ++ (L1803 ++ [])))))))) b z)) (fun z => .inr ⟨z, gl1934 b hb, OwAll.there w1935 b hb⟩)) (all_cons (.inl (.head _)) (all_cons (.inl (.tail _ (.head _))) (all_cons (.inl (.tail _ (.tail _ (.head _)))) (all_cons (.inl (.tail _ (.tail _ (.tail _ (.head _))))) (all_cons (.inl (.tail _ (.tail _ (.tail _ (.tail _ (.head _)))))) (all_app (fun b hb => .inl (((fun b hb => (.tail _ (.tail _ (.tail _ (.tail _ (.tail _ (List.mem_append_right _ (List.mem_append_left _ hb)))))))) : ∀ b ∈ L1803, b ∈ (p_actual :: (l_actual_lines :: (a_grid :: (p1200 :: (D1219 :: (L_actual_lines ++ (L1803 ++ [])))))))) b hb)) all_nil)))))))
            refine ⟨fun σ H' => ∃ (u1942 : Option V) (u1943 : Option V) (G' : Hp), σ = [some (V.ref p_actual), some (V.ref a_grid), some (V.int (cell')), some (V.int (columns')), some (V.int (rows')), some (V.ref p1200), some (V.int (((itD (v1197) (1)) % columns'))), some (V.int (((itD (v1197) (2)) % rows'))), some (V.int ((1 + (itD (v1197) (3))))), u1942, u1943, u1804, u1805] ∧ Same G1924 G' ∧ Sep (p_actual :: (l_actual_lines :: (L_actual_lines ++ (a_grid :: (L_grid ++ []))))) H G G' H' (p_actual :: (l_actual_lines :: (a_grid :: (p1200 :: (L1932 ++ (L1803 ++ [])))))) ∧ H' p_actual = some (.ins AD.c_MotionGrid dx_actual [("_width", V.int (v1917.width)), ("_height", V.int (v1917.height)), ("_lines", V.ref l_actual_lines)]) ∧ H' l_actual_lines = some (.lst (vs1931)) ∧ H' a_grid = some (.lst (vs1802)) ∧ H' p1200 = some (.lst ((v1197 : (List Int)).map V.int)) ∧ OwAll G' H' L1932 (vs1931) ((v1917.lines : (List (List PyData))).map (oL (oF encD))) ∧ OwAll G' H' L1803 (vs1802) ((grid_1801 : (List (List PyData))).map (oL (oF encD))) ∧ cW (F__law_keep_k7 (v1917) (grid_1801) ) KK EE, ?_, ?_⟩
            · obtain ⟨K1944, hK1945, hw⟩ := cW_push hw
              have h1946 := (x1922 _ _ h1904 (nm_cons (ne_of_none (e1199 _ _ (e1192 _ _ h_p_actual)) n1220).symm (nm_cons (ne_of_none (e1199 _ _ (e1192 _ _ h_l_actual_lines)) n1220).symm (nm_app (fun z => (there_ne (fun b_ hb_ => (S1205.ow b_ (((fun b hb => (.tail _ (.tail _ (.tail _ (.tail _ (List.mem_append_left _ hb)))))) : ∀ b ∈ L_actual_lines, b ∈ (p1200 :: (p1188 :: (p_actual :: (l_actual_lines :: (L_actual_lines ++ (a_grid :: (L_grid ++ [])))))))) b_ hb_)).2.1) n1220) _ z rfl) nm_nil))))
              refine ⟨_, rfl, ((encL encD) (acc1285)), rfl, (rp_mk_list h1946 (RpAll.mono S1923.sG (RpAll.mono eG1925 (RpAll.mono eG1915 d1287)))), _, rfl, ?_⟩
              refine iteT ?_
              refine ⟨_, rfl, (.inl ⟨rfl, _, SqL.of h1946⟩), ?_⟩
              have r1947 : Rp G1924 (V.non) (encD (encN (()))) := .non
              obtain ⟨g1948, hw⟩ := cW_grd hw
              refine ⟨_, _, _, rfl, rfl, h1946, (app_len (RpAll.mono eG1925 (RpAll.mono eG1915 d1287)) g1948), ?_⟩
              generalize g1949 : upd H1921 D1219 _ = H1950
              obtain ⟨x1951, h1952⟩ := gen_mut g1949
              have h1953 : H1950 D1219 = some (.lst (vs1286 ++ [(V.non)])) := h1952
              have S1954 := S1923.mut1 x1951 (List.mem_append_right _ (.tail _ (.tail _ (.tail _ (.tail _ (.head _)))))) h1953
              have d1955 : RpAll G1924 (vs1286 ++ [(V.non)]) (((acc1285) ++ [(encN (()))] : (List PyData)).map encD) := app_map (RpAll.mono eG1925 (RpAll.mono eG1915 d1287)) (RpAll.one r1947)
              have hw := cW_bnd hw
              refine ⟨(by show 2 ≤ sizeLine; decide), fun p1957 n1958 => ?_⟩
              generalize g1959 : upd H1950 p1957 _ = H1960
              obtain ⟨e1961, h1962⟩ := gen_new n1958 g1959
              have h1963 : H1960 p1957 = some (.tup [V.int (77), V.int (77)]) := h1962
              have fr1964 := S1954.free n1958
              obtain ⟨G1966, eG1967, hg1968, S1965⟩ := S1954.grow n1958 e1961 h1963 fr1964
              refine ⟨(by show 4 ≤ sizeLine; decide), fun p1969 n1970 => ?_⟩
              generalize g1971 : upd H1960 p1969 _ = H1972
              obtain ⟨e1973, h1974⟩ := gen_new n1970 g1971
              have h1975 : H1972 p1969 = some (.tup [V.int (0), V.int (0), V.ref p1957, V.non]) := h1974
              have fr1976 := S1965.free n1970
              obtain ⟨G1978, eG1979, hg1980, S1977⟩ := S1965.grow n1970 e1973 h1975 fr1976
              refine ⟨_, rfl, ?_⟩
              have r1981 : Rp G1978 (V.ref p1969) (encD ((encT4 PyData.int PyData.int (encT2 PyData.int PyData.int) encN) ((0, 0, (77, 77), ())))) := (rp_mk4 hg1980 (.int _) (.int _) (rp_mk2 (eG1979 _ _ hg1968) (.int _) (.int _)) .non)
              obtain ⟨g1982, hw⟩ := cW_grd hw
              have h1983 := (e1973 _ _ (e1961 _ _ h1953))
              refine ⟨_, _, _, _, rfl, rfl, h1983, (ixN_len (by rw [RpAll.len (RpAll.mono eG1979 (RpAll.mono eG1967 d1955)), List.length_map]) g1982), ?_⟩
              generalize g1984 : upd H1972 D1219 _ = H1985
              obtain ⟨x1986, h1987⟩ := gen_mut g1984
              have h1988 : H1985 D1219 = some (.lst ((vs1286 ++ [(V.non)]).set ((ixN (vs1286 ++ [(V.non)]).length (0)).getD 0) ((V.ref p1969)))) := h1987
              have S1989 := S1977.mut1 x1986 (List.mem_append_right _ (.tail _ (.tail _ (.tail _ (.tail _ (.head _)))))) h1988
              have d1990 : RpAll G1978 ((vs1286 ++ [(V.non)]).set ((ixN (vs1286 ++ [(V.non)]).length (0)).getD 0) ((V.ref p1969))) ((setL ((acc1285) ++ [(encN (()))]) (0) (((encT4 PyData.int PyData.int (encT2 PyData.int PyData.int) encN) ((0, 0, (77, 77), ())))) : (List PyData)).map encD) := RpAll.setM (RpAll.mono eG1979 (RpAll.mono eG1967 d1955)) r1981
              have hw := cW_bnd hw
              have hw := cW_ok hw
              have hw := hK1945 _ hw
              have h1992 := (x1986 _ _ (e1973 _ _ (e1961 _ _ (x1951 _ _ h1929 (ne_of_none (e1199 _ _ (e1192 _ _ h_p_actual)) n1220)))) (ne_of_none (e1199 _ _ (e1192 _ _ h_p_actual)) n1220))
              have h1993 := (x1986 _ _ (e1973 _ _ (e1961 _ _ (x1951 _ _ h1930 (ne_of_none (e1199 _ _ (e1192 _ _ h_l_actual_lines)) n1220)))) (ne_of_none (e1199 _ _ (e1192 _ _ h_l_actual_lines)) n1220))
              have h1994 := (x1986 _ _ (e1973 _ _ (e1961 _ _ (x1951 _ _ (x1922 _ _ h1902 (nm_cons (nx_0).symm (nm_cons (nx_2).symm (nm_app (fun z => nx_4 _ z rfl) nm_nil)))) (ne_of_none (e1199 _ _ (e1192 _ _ h_a_grid)) n1220)))) (ne_of_none (e1199 _ _ (e1192 _ _ h_a_grid)) n1220))
              have h1995 := (x1986 _ _ (e1973 _ _ (e1961 _ _ (x1951 _ _ (x1922 _ _ h1903 (nm_cons (ne_of_none (e1192 _ _ h_p_actual) n1201).symm (nm_cons (ne_of_none (e1192 _ _ h_l_actual_lines) n1201).symm (nm_app (fun z => (there_ne (fun b_ hb_ => (S1196.ow b_ (((fun b hb => (.tail _ (.tail _ (.tail _ (List.mem_append_left _ hb))))) : ∀ b ∈ L_actual_lines, b ∈ (p1188 :: (p_actual :: (l_actual_lines :: (L_actual_lines ++ (a_grid :: (L_grid ++ []))))))) b_ hb_)).2.1) n1201) _ z rfl) nm_nil)))) (ne_of_none h1203 n1220)))) (ne_of_none h1203 n1220))
              have w1996 : OwAll G1978 H1985 L1932 (vs1931) ((v1917.lines : (List (List PyData))).map (oL (oF encD))) := (OwAll.mono (Same.trans eG1967 eG1979) keeps_refl (OwAll.mono (Same.refl _) (keeps_mut x1986 ((grown_ne hs1933 ((there_ne (fun b_ hb_ => (S1205.ow b_ (((fun b hb => (.tail _ (.tail _ (.tail _ (.tail _ (List.mem_append_left _ hb)))))) : ∀ b ∈ L_actual_lines, b ∈ (p1200 :: (p1188 :: (p_actual :: (l_actual_lines :: (L_actual_lines ++ (a_grid :: (L_grid ++ [])))))))) b_ hb_)).2.1) n1220) : ∀ b ∈ L_actual_lines, b ≠ D1219) (S1899.ow _ (.tail _ (.tail _ (.tail _ (.tail _ (.head _)))))).2.1) : ∀ b ∈ L1932, b ≠ D1219)) (OwAll.mono (Same.refl _) (keeps_same e1973) (OwAll.mono (Same.refl _) (keeps_same e1961) (OwAll.mono (Same.refl _) (keeps_mut x1951 ((grown_ne hs1933 ((there_ne (fun b_ hb_ => (S1205.ow b_ (((fun b hb => (.tail _ (.tail _ (.tail _ (.tail _ (List.mem_append_left _ hb)))))) : ∀ b ∈ L_actual_lines, b ∈ (p1200 :: (p1188 :: (p_actual :: (l_actual_lines :: (L_actual_lines ++ (a_grid :: (L_grid ++ [])))))))) b_ hb_)).2.1) n1220) : ∀ b ∈ L_actual_lines, b ≠ D1219) (S1899.ow _ (.tail _ (.tail _ (.tail _ (.tail _ (.head _)))))).2.1) : ∀ b ∈ L1932, b ≠ D1219)) w1935)))))
              have w1997 : OwAll G1978 H1985 L1803 (vs1802) ((grid_1801 : (List (List PyData))).map (oL (oF encD))) := (OwAll.mono (Same.trans (Same.trans eG1925 eG1967) eG1979) keeps_refl (OwAll.mono (Same.refl _) (keeps_mut x1986 (ne1909 : ∀ b ∈ L1803, b ≠ D1219)) (OwAll.mono (Same.refl _) (keeps_same e1973) (OwAll.mono (Same.refl _) (keeps_same e1961) (OwAll.mono (Same.refl _) (keeps_mut x1951 (ne1909 : ∀ b ∈ L1803, b ≠ D1219)) (OwAll.mono (Same.refl _) (keeps_muts x1922 ((fun b hb => (nm_cons (ne1905 b hb) (nm_cons (ne1906 b hb) (nm_app ((fun b hb => (ne1910 b hb)) b hb) nm_nil)))) : ∀ b ∈ L1803, b ∉ (p_actual :: (l_actual_lines :: (L_actual_lines ++ []))))) w1912))))))
              exact ⟨_, _, _, rfl, (Same.trans eG1967 eG1979), (S1989.sub (all_cons (List.mem_append_right _ (.head _)) (all_cons (List.mem_append_right _ (.tail _ (.head _))) (all_cons (List.mem_append_right _ (.tail _ (.tail _ (.head _)))) (all_cons (List.mem_append_right _ (.tail _ (.tail _ (.tail _ (.head _))))) (all_app ((fun b hb => (List.mem_append_left _ hb)) : ∀ b ∈ L1932, b ∈ (L1932 ++ (p_actual :: (l_actual_lines :: (a_grid :: (p1200 :: (D1219 :: (L1803 ++ [])))))))) (all_app ((fun b hb => (List.mem_append_right _ (.tail _ (.tail _ (.tail _ (.tail _ (.tail _ (List.mem_append_left _ hb)))))))) : ∀ b ∈ L1803, b ∈ (L1932 ++ (p_actual :: (l_actual_lines :: (a_grid :: (p1200 :: (D1219 :: (L1803 ++ [])))))))) all_nil))))))), h1992, h1993, h1994, h1995, w1996, w1997, hw⟩
            · intro σ H1998 hw
              obtain ⟨u1942, u1943, G2006, rfl, eG2007, S1999, h2000, h2001, h2002, h2003, w2004, w2005, hw⟩ := hw
              unfold F__law_keep_k7 at hw
              have hw := cW_ok hw
              exact hK0 _ hw _ _ _ L1932 _ L1803 S1999.base S1999.g0 S1999.sG S1999.gn S1999.pm h2000 h2001 h2002 ((fun b hb => (hs1933 b hb).elim (((fun b hb => .inl hb) : ∀ b ∈ L_actual_lines, b ∈ L_actual_lines ∨ H b = none) b) (fun z => .inr (S1899.free z))) : ∀ b ∈ L1932, b ∈ L_actual_lines ∨ H b = none) ((fun b hb => (S1999.ow b (((fun b hb => (.tail _ (.tail _ (.tail _ (.tail _ (List.mem_append_left _ hb)))))) : ∀ b ∈ L1932, b ∈ (p_actual :: (l_actual_lines :: (a_grid :: (p1200 :: (L1932 ++ (L1803 ++ []))))))) b hb)).1) : ∀ b ∈ L1932, G2006 b = none) ((fun b hb => (hs1913 b hb).elim (((fun b hb => .inl hb) : ∀ b ∈ L_grid, b ∈ L_grid ∨ H b = none) b) (fun z => .inr (S0.free z))) : ∀ b ∈ L1803, b ∈ L_grid ∨ H b = none) ((fun b hb => (S1999.ow b (((fun b hb => (.tail _ (.tail _ (.tail _ (.tail _ (List.mem_append_right _ (List.mem_append_left _ hb))))))) : ∀ b ∈ L1803, b ∈ (p_actual :: (l_actual_lines :: (a_grid :: (p1200 :: (L1932 ++ (L1803 ++ []))))))) b hb)).1) : ∀ b ∈ L1803, G2006 b = none) (ne1936 : ∀ b ∈ L1932, b ≠ p_actual) (ne1937 : ∀ b ∈ L1932, b ≠ l_actual_lines) ((grown_ne hs1933 (nx_4 : ∀ b ∈ L_actual_lines, b ≠ a_grid) (S1899.ow _ (.tail _ (.tail _ (.head _)))).2.1) : ∀ b ∈ L1932, b ≠ a_grid) (ne1905 : ∀ b ∈ L1803, b ≠ p_actual) (ne1906 : ∀ b ∈ L1803, b ≠ l_actual_lines) (ne1907 : ∀ b ∈ L1803, b ≠ a_grid) ((fun b hb => ((grown_nl hs1933 ((fun b hb => ((nl_symm ne1910) b hb)) : ∀ b ∈ L_actual_lines, b ∉ L1803) (fun b hb => (S1899.ow b (((fun b hb => (.tail _ (.tail _ (.tail _ (.tail _ (.tail _ (List.mem_append_right _ (List.mem_append_left _ hb)))))))) : ∀ b ∈ L1803, b ∈ (p_actual :: (l_actual_lines :: (a_grid :: (p1200 :: (D1219 :: (L_actual_lines ++ (L1803 ++ [])))))))) b hb)).2.1)) b hb)) : ∀ b ∈ L1932, b ∉ L1803) w2004 w2005

abbrev N__median : List Str := ["numbers"]
theorem sc__median : FnScope N__median ["numbers"] (defScope s__median) := ⟨rfl, rfl, rfl, by decide +kernel, rfl, by decide +kernel, by decide +kernel⟩
theorem ok__median (D : DefX K mg "_median" s__median ["numbers"] pats__median) (T : Txt w K mg AD)  : CalX P w K mg base 1 "_median" (sp__median K AD) pats__median := by
  refine D.ok sc__median (fun vs H Q E h => ?_) (fun f cdv A_ outer s H vs Q E hr h => ?_)
  · obtain ⟨G, a_numbers, numbers', rfl, _⟩ := h
    rfl
  · obtain ⟨G, a_numbers, numbers', rfl, sG, q_numbers, hw⟩ := h
    refine ⟨_, (pss_one (ps_ret (pe_ix (ix_listK (K := K)) (pe_callB (cr_sortL (K := K)) (by rfl) T.b_sorted (by decide +kernel) (pa_cons (pv 0) pa_nil)) pe_int (fun _ _ => rfl)))), ?_⟩
    obtain ⟨KK, EE, hK0, hE, hw⟩ := cW_gen hw
    have S0 := Sep.startG sG
    unfold F__median at hw
    refine ⟨_, rfl, _, _, rfl, (SqL.of (S0.bM _ _ q_numbers)), fun p2008 n2009 => ?_⟩
    generalize g2010 : upd H p2008 _ = H2011
    obtain ⟨e2012, h2013⟩ := gen_new n2009 g2010
    have h2014 : H2011 p2008 = some (.lst (((sortL (numbers')) : (List Int)).map V.int)) := h2013
    have fr2015 := S0.free n2009
    have S2016 := S0.new n2009 e2012 h2014 fr2015
    obtain ⟨g2017, hw⟩ := cW_grd hw
    refine ⟨_, _, _, _, rfl, rfl, (SqL.of h2014), (atI_map g2017), ?_⟩
    have hw := cW_ok hw
    exact hK0 _ hw _ S2016.b0

abbrev N_MotionGrid_motion_at : List Str := ["self", "x", "y"]
theorem sc_MotionGrid_motion_at : FnScope N_MotionGrid_motion_at ["self", "x", "y"] (defScope s_MotionGrid_motion_at) := ⟨rfl, rfl, rfl, by decide +kernel, rfl, by decide +kernel, by decide +kernel⟩
theorem ok_MotionGrid_motion_at (D : MethX K AD.c_MotionGrid "MotionGrid.motion_at" "motion_at" s_MotionGrid_motion_at ["self", "x", "y"] pats_MotionGrid_motion_at) (T : Txt w K mg AD) (c_MotionGrid__has : MetX P w K mg base 1 AD.c_MotionGrid "_has" (sp_MotionGrid__has K AD) pats_MotionGrid__has) : MetX P w K mg base 2 AD.c_MotionGrid "motion_at" (sp_MotionGrid_motion_at K AD) pats_MotionGrid_motion_at := by
  refine D.ok T.cl_MotionGrid sc_MotionGrid_motion_at (fun vs H Q E h => ?_) (fun f cdv A_ outer s H vs Q E hr h => ?_)
  · obtain ⟨G, p_self, l_self_lines, dx_self, vs_self_lines, L_self_lines, self', x', y', rfl, _⟩ := h
    rfl
  · obtain ⟨G, p_self, l_self_lines, dx_self, vs_self_lines, L_self_lines, self', x', y', rfl, sG, h_p_self, h_l_self_lines, w_self_lines, hw⟩ := h
    refine ⟨_, (pss_one (ps_ret (pe_ifExp (pt_val (vx_methX c_MotionGrid__has pat_MotionGrid__has_0 (.head _) hr (by decide) (takes_of rfl rfl rfl rfl) (pv 0) (pa_cons (pv 1) (pa_cons (pv 2) pa_nil)) pk_nil)) (pe_ix (ix_listK (K := K)) (pe_ix (ix_listK (K := K)) (fldK (K := K) (pv 0)) (pv 2) (fun _ _ => rfl)) (pv 1) (fun _ _ => rfl)) pe_non))), ?_⟩
    obtain ⟨KK, EE, hK0, hE, hw⟩ := cW_gen hw
    have S0 := Sep.startG sG
    unfold F_MotionGrid_motion_at at hw
    refine ⟨_, rfl, _, _, _, rfl, (S0.bM _ _ h_p_self), rfl, _, rfl, _, rfl, rfl, rfl, G, _, _, _, _, L_self_lines, self', _, _, rfl, S0.sG, (hide_nil (S0.bM _ _ h_p_self)), (hide_nil (S0.bM _ _ h_l_self_lines)), (OwAll.mono (Same.refl _) (keeps_same (Sep.bhide S0 all_nil)) w_self_lines), cW_call hw (fun v2018 hw H2019 e2020 => ?_) (fun e he H2 e2 => hE e he H2 (Same.trans S0.b0 e2))⟩
    have S2021 := S0.same e2020
    refine ⟨_, rfl, ?_⟩
    refine iteB (fun c2022 => ?_) (fun c2022 => ?_)
    · have hw := cW_pos c2022 hw
      obtain ⟨g2023, hw⟩ := cW_grd hw
      have w2024 : OwAll G H2019 L_self_lines (vs_self_lines) ((self'.lines : (List (List PyData))).map (oL (oF encD))) := OwAll.mono (Same.refl _) (keeps_same S2021.bM) w_self_lines
      obtain ⟨v2025, L2026, a2027, w2028, hs2029, up2030, gr2031⟩ := OwAll.partM (k := y') w2024 g2023
      obtain ⟨b2032, vs2033, L2034, rfl, rfl, h2035, w2036, nb2037⟩ := Ow.toList w2028
      obtain ⟨g2038, hw⟩ := cW_grd hw
      obtain ⟨v2039, L2040, a2041, w2042, hs2043, up2044, gr2045⟩ := OwAll.partM (k := x') w2036 g2038
      obtain ⟨z2047, r2046⟩ := Ow.toFrz w2042
      refine ⟨_, rfl, _, _, _, _, _, rfl, (S2021.bM _ _ h_p_self), T.cl_MotionGrid, T.n_MotionGrid__lines, rfl, _, rfl, _, _, _, _, rfl, rfl, (SqL.of (S2021.bM _ _ h_l_self_lines)), a2027, _, rfl, _, _, _, _, rfl, rfl, (SqL.of h2035), a2041, ?_⟩
      have hw := cW_ok hw
      exact hK0 _ hw _ _ _ S2021.b0 S2021.g0 S2021.sG S2021.gn r2046
    · have hw := cW_negB c2022 hw
      have r2048 : Rp G (V.non) (encD (encN (()))) := .non
      have hw := cW_ok hw
      exact hK0 _ hw _ _ _ S2021.b0 S2021.g0 S2021.sG S2021.gn r2048

abbrev N_MotionGrid__vector_at : List Str := ["self", "x", "y", "place", "motion"]
theorem sc_MotionGrid__vector_at : FnScope N_MotionGrid__vector_at ["self", "x", "y", "place"] (defScope s_MotionGrid__vector_at) := ⟨rfl, rfl, rfl, by decide +kernel, rfl, by decide +kernel, by decide +kernel⟩
theorem ok_MotionGrid__vector_at (D : MethX K AD.c_MotionGrid "MotionGrid._vector_at" "_vector_at" s_MotionGrid__vector_at ["self", "x", "y", "place"] pats_MotionGrid__vector_at) (T : Txt w K mg AD) (c_MotionGrid_motion_at : MetX P w K mg base 2 AD.c_MotionGrid "motion_at" (sp_MotionGrid_motion_at K AD) pats_MotionGrid_motion_at) : MetX P w K mg base 3 AD.c_MotionGrid "_vector_at" (sp_MotionGrid__vector_at K AD) pats_MotionGrid__vector_at := by
  refine D.ok T.cl_MotionGrid sc_MotionGrid__vector_at (fun vs H Q E h => ?_) (fun f cdv A_ outer s H vs Q E hr h => ?_)
  · obtain ⟨G, p_self, l_self_lines, dx_self, vs_self_lines, L_self_lines, self', x', y', place', rfl, _⟩ := h
    rfl
  · obtain ⟨G, p_self, l_self_lines, dx_self, vs_self_lines, L_self_lines, self', x', y', place', rfl, sG, h_p_self, h_l_self_lines, w_self_lines, hw⟩ := h
    refine ⟨_, (pss_cons (ps_set (i := 4) sc_MotionGrid__vector_at.nd rfl (Or.inl rfl) (vx_methX c_MotionGrid_motion_at pat_MotionGrid_motion_at_0 (.head _) hr (by decide) (takes_of rfl rfl rfl rfl) (pv 0) (pa_cons (pv 1) (pa_cons (pv 2) pa_nil)) pk_nil))
      (pss_cons (ps_if (PW.pt (pw_or (pt_cmpR op_isND (pv 4) pe_non (nomark _)) (pw_or1 (pt_cmpR op_isND (pe_ix (ix_tupK (K := K)) (pv 4) (pv 3) (fun _ _ => rfl)) pe_non (nomark _))))) (pss_one (ps_ret (pe_tup (pa_cons pe_int (pa_cons pe_int pa_nil))))) pss_nil)
      (pss_one (ps_ret (pe_ix (ix_tupK (K := K)) (pv 4) (pv 3) (fun _ _ => rfl)))))), ?_⟩
    obtain ⟨KK, EE, hK0, hE, hw⟩ := cW_gen hw
    have S0 := Sep.startG sG
    unfold F_MotionGrid__vector_at at hw
    refine ⟨_, rfl, _, _, _, rfl, (S0.bM _ _ h_p_self), rfl, _, rfl, _, rfl, rfl, rfl, G, _, _, _, _, L_self_lines, self', _, _, rfl, S0.sG, (hide_nil (S0.bM _ _ h_p_self)), (hide_nil (S0.bM _ _ h_l_self_lines)), (OwAll.mono (Same.refl _) (keeps_same (Sep.bhide S0 all_nil)) w_self_lines), cW_call hw (fun v2049 hw v2052 H2050 G2053 e2051 eG2054 sG2055 hn2056 r2057 => ?_) (fun e he H2 e2 => hE e he H2 (Same.trans S0.b0 e2))⟩
    have S2058 := S0.step e2051 eG2054 sG2055 hn2056
    refine ⟨_, rfl, v2049, rfl, (Rp.mono S2058.sG r2057), _, rfl, ?_⟩
    refine iteB (fun c2059 => ?_) (fun c2059 => ?_)
    · have hw := cW_pos c2059 hw
      refine iteT ?_
      refine ⟨(by show 2 ≤ sizeLine; decide), fun p2060 n2061 => ?_⟩
      generalize g2062 : upd H2050 p2060 _ = H2063
      obtain ⟨e2064, h2065⟩ := gen_new n2061 g2062
      have h2066 : H2063 p2060 = some (.tup [V.int (0), V.int (0)]) := h2065
      have fr2067 := S2058.free n2061
      obtain ⟨G2069, eG2070, hg2071, S2068⟩ := S2058.grow n2061 e2064 h2066 fr2067
      have hw := cW_ok hw
      exact hK0 _ hw _ _ _ S2068.b0 S2068.g0 S2068.sG S2068.gn (rp_mk2 hg2071 (.int _) (.int _))
    · have hw := cW_negB c2059 hw
      obtain ⟨g2072, hw⟩ := cW_grd hw
      obtain ⟨a2073, vs2074, v2075, e2076, h2077, e2078, r2079⟩ := rp_dgetI g2072 r2057
      refine ⟨_, rfl, _, rfl, _, _, _, _, e2076, rfl, (SqT.of (S2058.sG _ _ h2077)), e2078, (dGet (v2049) (Int.toNat (place'))), rfl, (Rp.mono S2058.sG r2079), _, rfl, ?_⟩
      refine iteB (fun c2080 => ?_) (fun c2080 => ?_)
      · have hw := cW_pos c2080 hw
        refine ⟨(by show 2 ≤ sizeLine; decide), fun p2081 n2082 => ?_⟩
        generalize g2083 : upd H2050 p2081 _ = H2084
        obtain ⟨e2085, h2086⟩ := gen_new n2082 g2083
        have h2087 : H2084 p2081 = some (.tup [V.int (0), V.int (0)]) := h2086
        have fr2088 := S2058.free n2082
        obtain ⟨G2090, eG2091, hg2092, S2089⟩ := S2058.grow n2082 e2085 h2087 fr2088
        have hw := cW_ok hw
        exact hK0 _ hw _ _ _ S2089.b0 S2089.g0 S2089.sG S2089.gn (rp_mk2 hg2092 (.int _) (.int _))
      · have hw := cW_negB c2080 hw
        obtain ⟨g2093, hw⟩ := cW_grd hw
        obtain ⟨a2094, vs2095, v2096, e2097, h2098, e2099, r2100⟩ := rp_dgetI g2093 r2057
        obtain ⟨g2101, hw⟩ := cW_grd hw
        have r2102 : Rp G2053 v2096 ((encT2 PyData.int PyData.int) (((cT2 cI cI)).dec ((dGet (v2049) (Int.toNat (place')))))) := rp_dcast (cT2 cI cI) g2101 r2100
        obtain ⟨a2103, v2105, v2106, rfl, h2104, r2107, r2108⟩ := rp_tup2 r2102
        obtain rfl := rp_int r2107
        obtain rfl := rp_int r2108
        refine ⟨_, rfl, _, rfl, _, _, _, _, e2097, rfl, (SqT.of (S2058.sG _ _ h2098)), e2099, ?_⟩
        have hw := cW_ok hw
        exact hK0 _ hw _ _ _ S2058.b0 S2058.g0 S2058.sG S2058.gn (rp_mk2 h2104 (.int _) (.int _))

abbrev N_MotionGrid_predicted : List Str := ["self", "x", "y", "second", "place", "near", "vector"]
theorem sc_MotionGrid_predicted : FnScope N_MotionGrid_predicted ["self", "x", "y", "second"] (defScope s_MotionGrid_predicted) := ⟨rfl, rfl, rfl, by decide +kernel, rfl, by decide +kernel, by decide +kernel⟩
theorem ok_MotionGrid_predicted (D : MethX K AD.c_MotionGrid "MotionGrid.predicted" "predicted" s_MotionGrid_predicted ["self", "x", "y", "second"] pats_MotionGrid_predicted) (T : Txt w K mg AD) (c_MotionGrid__vector_at : MetX P w K mg base 3 AD.c_MotionGrid "_vector_at" (sp_MotionGrid__vector_at K AD) pats_MotionGrid__vector_at) (c__median : CalX P w K mg base 1 "_median" (sp__median K AD) pats__median) : MetX P w K mg base 4 AD.c_MotionGrid "predicted" (sp_MotionGrid_predicted K AD) pats_MotionGrid_predicted := by
  refine D.ok T.cl_MotionGrid sc_MotionGrid_predicted (fun vs H Q E h => ?_) (fun f cdv A_ outer s H vs Q E hr h => ?_)
  · obtain ⟨G, p_self, l_self_lines, dx_self, vs_self_lines, L_self_lines, self', x', y', second', rfl, _⟩ := h
    rfl
  · obtain ⟨G, p_self, l_self_lines, dx_self, vs_self_lines, L_self_lines, self', x', y', second', rfl, sG, h_p_self, h_l_self_lines, w_self_lines, hw⟩ := h
    refine ⟨_, (pss_cons (ps_set (i := 4) sc_MotionGrid_predicted.nd rfl (Or.inl rfl) (pe_ifExp (pt_val (pv 3)) (C8.pe_gc rfl T.g_SECOND) (C8.pe_gc rfl T.g_FIRST)))
      (pss_cons (ps_set (i := 5) sc_MotionGrid_predicted.nd rfl (Or.inl rfl) (pe_lst (pa_cons (vx_methX c_MotionGrid__vector_at pat_MotionGrid__vector_at_0 (.head _) hr (by decide) (takes_of rfl rfl rfl rfl) (pv 0) (pa_cons (pe_op op_sub (pv 1) pe_int) (pa_cons (pv 2) (pa_cons (pv 4) pa_nil))) pk_nil) (pa_cons (vx_methX c_MotionGrid__vector_at pat_MotionGrid__vector_at_0 (.head _) hr (by decide) (takes_of rfl rfl rfl rfl) (pv 0) (pa_cons (pv 1) (pa_cons (pe_op op_sub (pv 2) pe_int) (pa_cons (pv 4) pa_nil))) pk_nil) (pa_cons (vx_methX c_MotionGrid__vector_at pat_MotionGrid__vector_at_0 (.head _) hr (by decide) (takes_of rfl rfl rfl rfl) (pv 0) (pa_cons (pe_op op_sub (pv 1) pe_int) (pa_cons (pe_op op_sub (pv 2) pe_int) (pa_cons (pv 4) pa_nil))) pk_nil) pa_nil)))))
      (pss_one (ps_ret (pe_tup (pa_cons (vx_callX c__median pat__median_0 (.head _) hr (by decide) (takes_of rfl rfl rfl rfl) rfl (pa_cons (pe_lc (own := [("vector", 6)]) (g := gName 6) (by rfl) sc_MotionGrid_predicted.nd (pi_listK (K := K) (pv 5)) (blkOk_by (own := [("vector", 6)]) (N := N_MotionGrid_predicted) (sc := defScope s_MotionGrid_predicted) (by decide +kernel)) (fun _ _ _ _ _ => (pg_name (i := 6) sc_MotionGrid_predicted.nd rfl (Or.inl rfl))) (fun _ _ _ _ _ => pts_nil) (fun _ _ _ _ _ => (pe_ix (ix_tupK (K := K)) (pv 6) pe_int (fun _ _ => rfl)))) pa_nil) pk_nil) (pa_cons (vx_callX c__median pat__median_0 (.head _) hr (by decide) (takes_of rfl rfl rfl rfl) rfl (pa_cons (pe_lc (own := [("vector", 6)]) (g := gName 6) (by rfl) sc_MotionGrid_predicted.nd (pi_listK (K := K) (pv 5)) (blkOk_by (own := [("vector", 6)]) (N := N_MotionGrid_predicted) (sc := defScope s_MotionGrid_predicted) (by decide +kernel)) (fun _ _ _ _ _ => (pg_name (i := 6) sc_MotionGrid_predicted.nd rfl (Or.inl rfl))) (fun _ _ _ _ _ => pts_nil) (fun _ _ _ _ _ => (pe_ix (ix_tupK (K := K)) (pv 6) pe_int (fun _ _ => rfl)))) pa_nil) pk_nil) pa_nil))))))), ?_⟩
    obtain ⟨KK, EE, hK0, hE, hw⟩ := cW_gen hw
    have S0 := Sep.startG sG
    unfold F_MotionGrid_predicted at hw
    refine vv_ifb (vt_val (val_var rfl)) val_c val_c _ ?_
    have hw := cW_bnd hw
    refine ⟨_, rfl, _, _, _, rfl, (S0.bM _ _ h_p_self), rfl, _, rfl, _, _, rfl, rfl, _, rfl, _, rfl, rfl, rfl, G, _, _, _, _, L_self_lines, self', _, _, _, rfl, S0.sG, (hide_nil (S0.bM _ _ h_p_self)), (hide_nil (S0.bM _ _ h_l_self_lines)), (OwAll.mono (Same.refl _) (keeps_same (Sep.bhide S0 all_nil)) w_self_lines), cW_call hw (fun v2113 hw v2116 H2114 G2117 e2115 eG2118 sG2119 hn2120 r2121 => ?_) (fun e he H2 e2 => hE e he H2 (Same.trans S0.b0 e2))⟩
    have S2122 := S0.step e2115 eG2118 sG2119 hn2120
    obtain ⟨a2123, v2125, v2126, rfl, h2124, r2127, r2128⟩ := rp_tup2 r2121
    obtain rfl := rp_int r2127
    obtain rfl := rp_int r2128
    refine ⟨_, rfl, _, _, _, rfl, (S2122.bM _ _ h_p_self), rfl, _, rfl, _, rfl, _, _, rfl, rfl, _, rfl, rfl, rfl, G2117, _, _, _, _, L_self_lines, self', _, _, _, rfl, S2122.sG, (hide_nil (S2122.bM _ _ h_p_self)), (hide_nil (S2122.bM _ _ h_l_self_lines)), (OwAll.mono eG2118 (keeps_same (Sep.bhide S2122 all_nil)) w_self_lines), cW_call hw (fun v2129 hw v2132 H2130 G2133 e2131 eG2134 sG2135 hn2136 r2137 => ?_) (fun e he H2 e2 => hE e he H2 (Same.trans S2122.b0 e2))⟩
    have S2138 := S2122.step e2131 eG2134 sG2135 hn2136
    obtain ⟨a2139, v2141, v2142, rfl, h2140, r2143, r2144⟩ := rp_tup2 r2137
    obtain rfl := rp_int r2143
    obtain rfl := rp_int r2144
    refine ⟨_, rfl, _, _, _, rfl, (S2138.bM _ _ h_p_self), rfl, _, rfl, _, _, rfl, rfl, _, rfl, _, _, rfl, rfl, _, rfl, rfl, rfl, G2133, _, _, _, _, L_self_lines, self', _, _, _, rfl, S2138.sG, (hide_nil (S2138.bM _ _ h_p_self)), (hide_nil (S2138.bM _ _ h_l_self_lines)), (OwAll.mono (Same.trans eG2118 eG2134) (keeps_same (Sep.bhide S2138 all_nil)) w_self_lines), cW_call hw (fun v2145 hw v2148 H2146 G2149 e2147 eG2150 sG2151 hn2152 r2153 => ?_) (fun e he H2 e2 => hE e he H2 (Same.trans S2138.b0 e2))⟩
    have S2154 := S2138.step e2147 eG2150 sG2151 hn2152
    obtain ⟨a2155, v2157, v2158, rfl, h2156, r2159, r2160⟩ := rp_tup2 r2153
    obtain rfl := rp_int r2159
    obtain rfl := rp_int r2160
    refine ⟨(by show 3 ≤ sizeLine; decide), fun p2161 n2162 => ?_⟩
    generalize g2163 : upd H2146 p2161 _ = H2164
    obtain ⟨e2165, h2166⟩ := gen_new n2162 g2163
    have h2167 : H2164 p2161 = some (.lst ([V.ref a2123, V.ref a2139, V.ref a2155])) := h2166
    have fr2168 := S2154.free n2162
    have S2169 := S2154.new n2162 e2165 h2167 fr2168
    have d2170 : RpAll G2149 ([V.ref a2123, V.ref a2139, V.ref a2155]) (([v2113, v2129, v2145] : (List (Int × Int))).map (encT2 PyData.int PyData.int)) := (RpAll.cons (rp_mk2 (eG2150 _ _ (eG2134 _ _ h2124)) (.int _) (.int _)) (RpAll.cons (rp_mk2 (eG2150 _ _ h2140) (.int _) (.int _)) (RpAll.cons (rp_mk2 h2156 (.int _) (.int _)) RpAll.nil)))
    obtain ⟨K2172, hK2173, hw⟩ := cW_push hw
    refine ⟨_, rfl, _, rfl, ⟨_, (SqL.of h2167)⟩, fun D2174 n2175 => lc_list (K := K) (a := p2161) (xs := [V.ref a2123, V.ref a2139, V.ref a2155]) (fun i H' => ∃ (G' : Hp) (acc2177 : (List Int)), Same G2149 G' ∧ Sep [] H G G' H' [D2174, p2161] ∧ H' p2161 = some (.lst ([V.ref a2123, V.ref a2139, V.ref a2155])) ∧ H' D2174 = some (.lst ((acc2177 : (List Int)).map V.int)) ∧ Same H2164 H' ∧ cW (mapA (List.drop i ([v2113, v2129, v2145])) acc2177 (fun x => noEr (F_MotionGrid_predicted_c1  x))) K2172 EE) ?_ ?_ ?_ ?_⟩
    · generalize g2179 : upd H2164 D2174 _ = H2180
      obtain ⟨e2181, h2182⟩ := gen_new n2175 g2179
      have fr2183 := S2169.free n2175
      have S2184 := S2169.new n2175 e2181 h2182 fr2183
      have h2185 := (e2181 _ _ h2167)
      exact ⟨_, [], Same.refl _, S2184, h2185, h2182, e2181, hw⟩
    · intro i H2186 _ hw
      obtain ⟨G2189, acc2191, eG2190, S2187, h2198, h2188, eo2197, hw⟩ := hw
      exact (SqL.of h2198)
    · intro i x H2199 hj hw
      obtain ⟨G2202, acc2204, eG2203, S2200, h2211, h2201, eo2210, hw⟩ := hw
      obtain ⟨x2212, hx, r2213⟩ := RpAll.get (RpAll.mono eG2203 d2170) hj
      obtain ⟨a2214, v2216, v2217, rfl, h2215, r2218, r2219⟩ := rp_tup2 r2213
      obtain rfl := rp_int r2218
      obtain rfl := rp_int r2219
      obtain ⟨z2220, hw⟩ := cW_mapA hx hw
      have hw := cW_noEr hw
      have hw : cW (F_MotionGrid_predicted_c1  (x2212)) _ (fun _ => False) := hw
      unfold F_MotionGrid_predicted_c1 at hw
      refine ⟨rfl, ?_⟩
      refine tyes_go ?_
      refine ⟨_, rfl, _, _, _, _, rfl, rfl, (SqT.of (S2200.sG _ _ h2215)), rfl, _, h2201, (app_lenM z2220), ?_⟩
      generalize g2222 : upd H2199 D2174 _ = H2223
      obtain ⟨x2224, h2225⟩ := gen_mut g2222
      have S2226 := S2200.mut1 x2224 (.head _) h2225
      have hw := cW_ok hw
      have h2227 := (x2224 _ _ h2211 (ne_of_none h2167 n2175))
      exact ⟨_, (acc2204 ++ [x2212.1]), eG2203, S2226, h2227, (snoc_map h2225), (same_mut eo2210 x2224 n2175), hw⟩
    intro H2228 hw
    obtain ⟨G2231, acc2233, eG2232, S2229, h2240, h2230, eo2239, hw⟩ := hw
    have hw := hK2173 _ (cW_mapA0 (by rw [(RpAll.mono eG2232 d2170).len, List.length_map]) hw)
    have fr2241 := S2169.free n2175
    refine ⟨rfl, rfl, G2231, _, _, rfl, S2229.sG, (hide_nil h2230), cW_call hw (fun v2242 hw H2243 e2244 => ?_) (fun e he H2 e2 => hE e he H2 (Same.trans S2229.b0 e2))⟩
    have S2245 := S2229.same e2244
    have h2246 := (e2244 _ _ h2240)
    obtain ⟨K2248, hK2249, hw⟩ := cW_push hw
    refine ⟨_, rfl, _, rfl, ⟨_, (SqL.of h2246)⟩, fun D2250 n2251 => lc_list (K := K) (a := p2161) (xs := [V.ref a2123, V.ref a2139, V.ref a2155]) (fun i H' => ∃ (G' : Hp) (acc2253 : (List Int)), Same G2231 G' ∧ Sep [] H G G' H' [D2250, p2161] ∧ H' p2161 = some (.lst ([V.ref a2123, V.ref a2139, V.ref a2155])) ∧ H' D2250 = some (.lst ((acc2253 : (List Int)).map V.int)) ∧ Same H2243 H' ∧ cW (mapA (List.drop i ([v2113, v2129, v2145])) acc2253 (fun x => noEr (F_MotionGrid_predicted_c2  x))) K2248 EE) ?_ ?_ ?_ ?_⟩
    · generalize g2255 : upd H2243 D2250 _ = H2256
      obtain ⟨e2257, h2258⟩ := gen_new n2251 g2255
      have fr2259 := S2245.free n2251
      have S2260 := S2245.new n2251 e2257 h2258 fr2259
      have h2261 := (e2257 _ _ h2246)
      exact ⟨_, [], Same.refl _, (S2260.sub (all_cons (.head _) (all_cons (.tail _ (.tail _ (.head _))) all_nil))), h2261, h2258, e2257, hw⟩
    · intro i H2262 _ hw
      obtain ⟨G2265, acc2267, eG2266, S2263, h2274, h2264, eo2273, hw⟩ := hw
      exact (SqL.of h2274)
    · intro i x H2275 hj hw
      obtain ⟨G2278, acc2280, eG2279, S2276, h2287, h2277, eo2286, hw⟩ := hw
      obtain ⟨x2288, hx, r2289⟩ := RpAll.get (RpAll.mono eG2279 (RpAll.mono eG2232 d2170)) hj
      obtain ⟨a2290, v2292, v2293, rfl, h2291, r2294, r2295⟩ := rp_tup2 r2289
      obtain rfl := rp_int r2294
      obtain rfl := rp_int r2295
      obtain ⟨z2296, hw⟩ := cW_mapA hx hw
      have hw := cW_noEr hw
      have hw : cW (F_MotionGrid_predicted_c2  (x2288)) _ (fun _ => False) := hw
      unfold F_MotionGrid_predicted_c2 at hw
      refine ⟨rfl, ?_⟩
      refine tyes_go ?_
      refine ⟨_, rfl, _, _, _, _, rfl, rfl, (SqT.of (S2276.sG _ _ h2291)), rfl, _, h2277, (app_lenM z2296), ?_⟩
      generalize g2298 : upd H2275 D2250 _ = H2299
      obtain ⟨x2300, h2301⟩ := gen_mut g2298
      have S2302 := S2276.mut1 x2300 (.head _) h2301
      have hw := cW_ok hw
      have h2303 := (x2300 _ _ h2287 (ne_of_none h2246 n2251))
      exact ⟨_, (acc2280 ++ [x2288.2]), eG2279, S2302, h2303, (snoc_map h2301), (same_mut eo2286 x2300 n2251), hw⟩
    intro H2304 hw
    obtain ⟨G2307, acc2309, eG2308, S2305, h2316, h2306, eo2315, hw⟩ := hw
    have hw := hK2249 _ (cW_mapA0 (by rw [(RpAll.mono eG2308 (RpAll.mono eG2232 d2170)).len, List.length_map]) hw)
    have fr2317 := S2245.free n2251
    refine ⟨rfl, rfl, G2307, _, _, rfl, S2305.sG, (hide_nil h2306), cW_call hw (fun v2318 hw H2319 e2320 => ?_) (fun e he H2 e2 => hE e he H2 (Same.trans S2305.b0 e2))⟩
    have S2321 := S2305.same e2320
    refine ⟨(by show 2 ≤ sizeLine; decide), fun p2322 n2323 => ?_⟩
    generalize g2324 : upd H2319 p2322 _ = H2325
    obtain ⟨e2326, h2327⟩ := gen_new n2323 g2324
    have h2328 : H2325 p2322 = some (.tup [V.int (v2242), V.int (v2318)]) := h2327
    have fr2329 := S2321.free n2323
    obtain ⟨G2331, eG2332, hg2333, S2330⟩ := S2321.grow n2323 e2326 h2328 fr2329
    have hw := cW_ok hw
    exact hK0 _ hw _ _ _ S2330.b0 S2330.g0 S2330.sG S2330.gn (rp_mk2 hg2333 (.int _) (.int _))

abbrev N_MotionGrid_skipped : List Str := ["self", "column", "row", "kind", "first"]
theorem sc_MotionGrid_skipped : FnScope N_MotionGrid_skipped ["self", "column", "row", "kind"] (defScope s_MotionGrid_skipped) := ⟨rfl, rfl, rfl, by decide +kernel, rfl, by decide +kernel, by decide +kernel⟩
theorem ok_MotionGrid_skipped (D : MethX K AD.c_MotionGrid "MotionGrid.skipped" "skipped" s_MotionGrid_skipped ["self", "column", "row", "kind"] pats_MotionGrid_skipped) (T : Txt w K mg AD) (c_MotionGrid_predicted : MetX P w K mg base 4 AD.c_MotionGrid "predicted" (sp_MotionGrid_predicted K AD) pats_MotionGrid_predicted) : MetX P w K mg base 5 AD.c_MotionGrid "skipped" (sp_MotionGrid_skipped K AD) pats_MotionGrid_skipped := by
  refine D.ok T.cl_MotionGrid sc_MotionGrid_skipped (fun vs H Q E h => ?_) (fun f cdv A_ outer s H vs Q E hr h => ?_)
  · obtain ⟨G, p_self, l_self_lines, dx_self, vs_self_lines, L_self_lines, self', column', row', kind', rfl, _⟩ := h
    rfl
  · obtain ⟨G, p_self, l_self_lines, dx_self, vs_self_lines, L_self_lines, self', column', row', kind', rfl, sG, h_p_self, h_l_self_lines, w_self_lines, hw⟩ := h
    refine ⟨_, (pss_cons (ps_set (i := 4) sc_MotionGrid_skipped.nd rfl (Or.inl rfl) (vx_methX c_MotionGrid_predicted pat_MotionGrid_predicted_0 (.head _) hr (by decide) (takes_of rfl rfl rfl rfl) (pv 0) (pa_cons (pe_op op_mul pe_int (pv 1)) (pa_cons (pe_op op_mul pe_int (pv 2)) pa_nil)) pk_nil))
      (pss_cons (ps_if (pt_cmpR op_eq (pv 3) pe_str (nomark _)) (pss_one (ps_ret (pe_tup (pa_cons pe_int (pa_cons pe_int (pa_cons (pv 4) (pa_cons pe_non pa_nil))))))) pss_nil)
      (pss_one (ps_ret (pe_tup (pa_cons pe_int (pa_cons pe_int (pa_cons (pv 4) (pa_cons (vx_methX c_MotionGrid_predicted pat_MotionGrid_predicted_1 (.tail _ (.head _)) hr (by decide) (takes_of rfl rfl rfl rfl) (pv 0) (pa_cons (pe_op op_mul pe_int (pv 1)) (pa_cons (pe_op op_mul pe_int (pv 2)) pa_nil)) (pk_cons pe_bl pk_nil)) pa_nil))))))))), ?_⟩
    obtain ⟨KK, EE, hK0, hE, hw⟩ := cW_gen hw
    have S0 := Sep.startG sG
    unfold F_MotionGrid_skipped at hw
    refine ⟨_, rfl, _, _, _, rfl, (S0.bM _ _ h_p_self), rfl, _, rfl, _, _, rfl, rfl, (.inl ⟨by decide, by decide⟩), _, rfl, _, _, rfl, rfl, (.inl ⟨by decide, by decide⟩), rfl, rfl, G, _, _, _, _, L_self_lines, self', _, _, _, rfl, S0.sG, (hide_nil (S0.bM _ _ h_p_self)), (hide_nil (S0.bM _ _ h_l_self_lines)), (OwAll.mono (Same.refl _) (keeps_same (Sep.bhide S0 all_nil)) w_self_lines), cW_call hw (fun v2334 hw v2337 H2335 G2338 e2336 eG2339 sG2340 hn2341 r2342 => ?_) (fun e he H2 e2 => hE e he H2 (Same.trans S0.b0 e2))⟩
    have S2343 := S0.step e2336 eG2339 sG2340 hn2341
    obtain ⟨a2344, v2346, v2347, rfl, h2345, r2348, r2349⟩ := rp_tup2 r2342
    obtain rfl := rp_int r2348
    obtain rfl := rp_int r2349
    refine ⟨_, rfl, rfl, _, rfl, ?_⟩
    refine iteD (fun c2350 => ?_) (fun c2350 => ?_)
    · have hw := cW_pos c2350 hw
      refine ⟨_, rfl, (by show 4 ≤ sizeLine; decide), fun p2351 n2352 => ?_⟩
      generalize g2353 : upd H2335 p2351 _ = H2354
      obtain ⟨e2355, h2356⟩ := gen_new n2352 g2353
      have h2357 : H2354 p2351 = some (.tup [V.int (0), V.int (0), V.ref a2344, V.non]) := h2356
      have fr2358 := S2343.free n2352
      obtain ⟨G2360, eG2361, hg2362, S2359⟩ := S2343.grow n2352 e2355 h2357 fr2358
      have r2363 : Rp G2360 (V.non) (encD (encN (()))) := .non
      have hw := cW_ok hw
      exact hK0 _ hw _ _ _ S2359.b0 S2359.g0 S2359.sG S2359.gn (rp_mk4 hg2362 (.int _) (.int _) (rp_mk2 (eG2361 _ _ h2345) (.int _) (.int _)) r2363)
    · have hw := cW_neg c2350 hw
      refine ⟨_, rfl, _, rfl, _, _, _, rfl, (S2343.bM _ _ h_p_self), rfl, _, rfl, _, _, rfl, rfl, (.inl ⟨by decide, by decide⟩), _, rfl, _, _, rfl, rfl, (.inl ⟨by decide, by decide⟩), rfl, rfl, G2338, _, _, _, _, L_self_lines, self', _, _, _, rfl, S2343.sG, (hide_nil (S2343.bM _ _ h_p_self)), (hide_nil (S2343.bM _ _ h_l_self_lines)), (OwAll.mono eG2339 (keeps_same (Sep.bhide S2343 all_nil)) w_self_lines), cW_call hw (fun v2364 hw v2367 H2365 G2368 e2366 eG2369 sG2370 hn2371 r2372 => ?_) (fun e he H2 e2 => hE e he H2 (Same.trans S2343.b0 e2))⟩
      have S2373 := S2343.step e2366 eG2369 sG2370 hn2371
      obtain ⟨a2374, v2376, v2377, rfl, h2375, r2378, r2379⟩ := rp_tup2 r2372
      obtain rfl := rp_int r2378
      obtain rfl := rp_int r2379
      refine ⟨(by show 4 ≤ sizeLine; decide), fun p2380 n2381 => ?_⟩
      generalize g2382 : upd H2365 p2380 _ = H2383
      obtain ⟨e2384, h2385⟩ := gen_new n2381 g2382
      have h2386 : H2383 p2380 = some (.tup [V.int (2), V.int (0), V.ref a2344, V.ref a2374]) := h2385
      have fr2387 := S2373.free n2381
      obtain ⟨G2389, eG2390, hg2391, S2388⟩ := S2373.grow n2381 e2384 h2386 fr2387
      have r2392 : Rp G2389 (V.ref a2374) (encD ((encT2 PyData.int PyData.int) (v2364))) := (rp_mk2 (eG2390 _ _ h2375) (.int _) (.int _))
      have hw := cW_ok hw
      exact hK0 _ hw _ _ _ S2388.b0 S2388.g0 S2388.sG S2388.gn (rp_mk4 hg2391 (.int _) (.int _) (rp_mk2 (eG2390 _ _ (eG2369 _ _ h2345)) (.int _) (.int _)) r2392)

abbrev N_law : List Str := ["script", "draws", "columns", "rows", "actual", "grid", "cell", "place", "x", "y", "second", "told", "first", "both", "far", "outside", "k", "i", "due"]
theorem sc_law : FnScope N_law ["script"] (defScope s_law) := ⟨rfl, rfl, rfl, by decide +kernel, rfl, by decide +kernel, by decide +kernel⟩
theorem ok_law {f : Addr} {fd : FuncData} (F : FunD K "law" "law" (defArgs s_law) (defBody s_law) (defScope s_law) [] [] f fd) (T : Txt w K mg AD) (c__law_draws : CalX P w K mg base 1 "_law_draws" (sp__law_draws K AD) pats__law_draws) (c__law_cell : CalX P w K mg base 1 "_law_cell" (sp__law_cell K AD) pats__law_cell) (c_MotionGrid___init__ : MakX P w K mg base 1 "MotionGrid" AD.c_MotionGrid (sp_MotionGrid___init__ K AD) pats_MotionGrid___init__) (c_MotionGrid_predicted : MetX P w K mg base 4 AD.c_MotionGrid "predicted" (sp_MotionGrid_predicted K AD) pats_MotionGrid_predicted) (c__law_predicted : CalX P w K mg base 2 "_law_predicted" (sp__law_predicted K AD) pats__law_predicted) (c_MotionGrid_skipped : MetX P w K mg base 5 AD.c_MotionGrid "skipped" (sp_MotionGrid_skipped K AD) pats_MotionGrid_skipped) (c__law_keep : CalX P w K mg base 4 "_law_keep" (sp__law_keep K AD) pats__law_keep) (c_MotionGrid_motion_at : MetX P w K mg base 2 AD.c_MotionGrid "motion_at" (sp_MotionGrid_motion_at K AD) pats_MotionGrid_motion_at) : FnG P w K mg base CX0 6 f fd ["script"] (sp_law K AD) := by
  refine FnG.bodyN F sc_law (fun vs H Q E h => ?_) (fun cdv A_ outer s H vs Q E hr h => ?_)
  · obtain ⟨a_script, script, rfl, _⟩ := h
    rfl
  · obtain ⟨a_script, script', rfl, q_script, hw, k⟩ := h
    refine ⟨_, (pss_cons (ps_set (i := 1) sc_law.nd rfl (Or.inl rfl) (vx_callX c__law_draws pat__law_draws_0 (.head _) hr (by decide) takes0 rfl (pa_cons (vx_callX c__law_cell pat__law_cell_0 (.head _) hr (by decide) takes0 rfl (pa_cons (pv 0) (pa_cons pe_int pa_nil)) pk_nil) (pa_cons (pe_lst (pa_cons pe_int (pa_cons pe_int pa_nil))) pa_nil)) pk_nil))
      (pss_cons (ps_set (i := 2) sc_law.nd rfl (Or.inr rfl) (pe_op op_add pe_int (pe_ix (ix_listK (K := K)) (pv 1) pe_int (fun _ _ => rfl))))
      (pss_cons (ps_set (i := 3) sc_law.nd rfl (Or.inl rfl) (pe_op op_add pe_int (pe_ix (ix_listK (K := K)) (pv 1) pe_int (fun _ _ => rfl))))
      (pss_cons (ps_set (i := 4) sc_law.nd rfl (Or.inl rfl) (vx_makeX c_MotionGrid___init__ pat_MotionGrid___init___0 (.head _) hr (by decide) takes0 rfl (pa_cons (pv 2) (pa_cons (pv 3) pa_nil)) pk_nil))
      (pss_cons (ps_setLc (i := 5) (y := "grid") rfl sc_law.nd rfl rfl (sw_true rfl rfl rfl (by decide +kernel)) (own := [("y", 9)]) (g := gName 9) (pi_range1 rfl T.b_range (pa_cons (pe_op op_mul pe_int (pv 3)) pa_nil)) (blkOk_by (own := [("y", 9)]) (N := N_law) (sc := defScope s_law) (by decide +kernel)) (fun _ _ _ _ _ => (pg_name (i := 9) sc_law.nd rfl (Or.inl rfl))) (fun _ _ _ _ _ => pts_nil) (fun _ _ _ _ _ => (pe_op op_rep (pe_lst (pa_cons pe_non pa_nil)) (pe_op op_mul pe_int (pv 2)))))
      (pss_cons (ps_for PassesOwn.never rfl (pi_listK (K := K) (pe_op op_cat (pe_lst (pa_cons pe_int pa_nil)) (pe_slice (sl_listK (K := K)) (pv 0) (po_some pe_int) po_none))) (pg_name (i := 6) sc_law.nd rfl (Or.inl rfl)) (pss_cons (ps_set (i := 7) sc_law.nd rfl (Or.inl rfl) (vx_callX c__law_draws pat__law_draws_0 (.head _) hr (by decide) takes0 rfl (pa_cons (pe_op op_fdivW (pe_callTy call_int1 (by rfl) T.b_int (by decide +kernel) (pa_cons (pv 6) pa_nil)) pe_int) (pa_cons (pe_lst (pa_cons pe_int (pa_cons pe_int (pa_cons pe_int pa_nil)))) pa_nil)) pk_nil))
      (pss_cons (ps_set (i := 8) sc_law.nd rfl (Or.inl rfl) (pe_op op_mod (pe_callTy call_int1 (by rfl) T.b_int (by decide +kernel) (pa_cons (pe_ix (ix_listK (K := K)) (pv 7) pe_int (fun _ _ => rfl)) pa_nil)) (pe_op op_mul pe_int (pv 2))))
      (pss_cons (ps_set (i := 9) sc_law.nd rfl (Or.inl rfl) (pe_op op_mod (pe_callTy call_int1 (by rfl) T.b_int (by decide +kernel) (pa_cons (pe_ix (ix_listK (K := K)) (pv 7) pe_int (fun _ _ => rfl)) pa_nil)) (pe_op op_mul pe_int (pv 3))))
      (pss_cons (ps_for PassesOwn.never rfl (pi_range1 rfl T.b_range (pa_cons pe_int pa_nil)) (pg_name (i := 10) sc_law.nd rfl (Or.inl rfl)) (pss_cons (ps_set (i := 11) sc_law.nd rfl (Or.inl rfl) (vx_methX c_MotionGrid_predicted pat_MotionGrid_predicted_1 (.tail _ (.head _)) hr (by decide) takes0 (pv 4) (pa_cons (pv 8) (pa_cons (pv 9) pa_nil)) (pk_cons (pe_cmp (pc_eqI (pv 10) pe_int)) pk_nil)))
      (pss_one (ps_if (PW.pt (pw_or (pt_not (pt_val (pe_callB call_isi (by rfl) T.b_isinstance (by decide +kernel) (pa_cons (pv 11) (pa_cons (pe_bltn (v := V.ty "tuple") (u := Value.type "tuple") (by rfl) T.b_tuple (by decide +kernel) rfl) pa_nil))))) (pw_or1 (pt_cmpR (op_neT (encOk_T2 encOk_int encOk_int) hr.units) (pv 11) (vx_callX c__law_predicted pat__law_predicted_0 (.head _) hr (by decide) takes0 rfl (pa_cons (pv 5) (pa_cons (pv 8) (pa_cons (pv 9) (pa_cons (pv 10) pa_nil)))) pk_nil) (nomark _))))) (pss_one (ps_ret pe_bl)) pss_nil))))
      (pss_cons (ps_set (i := 12) sc_law.nd rfl (Or.inl rfl) (vx_callX c__law_predicted pat__law_predicted_0 (.head _) hr (by decide) takes0 rfl (pa_cons (pv 5) (pa_cons (pe_op op_mul pe_int (pe_op op_fdivW (pv 8) pe_int)) (pa_cons (pe_op op_mul pe_int (pe_op op_fdivW (pv 9) pe_int)) (pa_cons pe_int pa_nil)))) pk_nil))
      (pss_cons (ps_set (i := 13) sc_law.nd rfl (Or.inl rfl) (vx_callX c__law_predicted pat__law_predicted_0 (.head _) hr (by decide) takes0 rfl (pa_cons (pv 5) (pa_cons (pe_op op_mul pe_int (pe_op op_fdivW (pv 8) pe_int)) (pa_cons (pe_op op_mul pe_int (pe_op op_fdivW (pv 9) pe_int)) (pa_cons pe_int pa_nil)))) pk_nil))
      (pss_cons (ps_if (PW.pt (pw_or (pt_cmpR (op_neDD hr.units) (vx_methX c_MotionGrid_skipped pat_MotionGrid_skipped_0 (.head _) hr (by decide) takes0 (pv 4) (pa_cons (pe_op op_fdivW (pv 8) pe_int) (pa_cons (pe_op op_fdivW (pv 9) pe_int) (pa_cons pe_str pa_nil))) pk_nil) (pe_tup (pa_cons pe_int (pa_cons pe_int (pa_cons (pv 12) (pa_cons pe_non pa_nil))))) (nomark _)) (pw_or1 (pt_cmpR (op_neT (encOk_T2 encOk_int encOk_int) hr.units) (vx_methX c_MotionGrid_predicted pat_MotionGrid_predicted_0 (.head _) hr (by decide) takes0 (pv 4) (pa_cons (pv 8) (pa_cons (pv 9) pa_nil)) pk_nil) (vx_callX c__law_predicted pat__law_predicted_0 (.head _) hr (by decide) takes0 rfl (pa_cons (pv 5) (pa_cons (pv 8) (pa_cons (pv 9) (pa_cons pe_int pa_nil)))) pk_nil) (nomark _))))) (pss_one (ps_ret pe_bl)) pss_nil)
      (pss_cons (ps_if (pt_cmpR (op_neDD hr.units) (vx_methX c_MotionGrid_skipped pat_MotionGrid_skipped_0 (.head _) hr (by decide) takes0 (pv 4) (pa_cons (pe_op op_fdivW (pv 8) pe_int) (pa_cons (pe_op op_fdivW (pv 9) pe_int) (pa_cons pe_str pa_nil))) pk_nil) (pe_tup (pa_cons pe_int (pa_cons pe_int (pa_cons (pv 12) (pa_cons (pv 13) pa_nil))))) (nomark _)) (pss_one (ps_ret pe_bl)) pss_nil)
      (pss_cons (ps_if (pt_not (pt_val (vx_callX c__law_keep pat__law_keep_0 (.head _) hr (by decide) takes0 rfl (pa_cons (pv 4) (pa_cons (pv 5) (pa_cons (pv 6) (pa_cons (pv 2) (pa_cons (pv 3) pa_nil))))) pk_nil))) (pss_one (ps_ret pe_bl)) pss_nil)
      (pss_cons (ps_set (i := 14) sc_law.nd rfl (Or.inl rfl) (pe_op op_add (pe_callTy call_int1 (by rfl) T.b_int (by decide +kernel) (pa_cons (pe_ix (ix_listK (K := K)) (pv 7) pe_int (fun _ _ => rfl)) pa_nil)) pe_int))
      (pss_cons (ps_for PassesOwn.never rfl (pi_listK (K := K) (pe_lst (pa_cons (pe_tup (pa_cons (pe_un un_neg (pv 14)) (pa_cons pe_int pa_nil))) (pa_cons (pe_tup (pa_cons (pv 8) (pa_cons (pe_un un_neg (pv 14)) pa_nil))) (pa_cons (pe_tup (pa_cons (pe_op op_add (pe_op op_sub (pe_op op_mul pe_int (pv 2)) pe_int) (pv 14)) (pa_cons pe_int pa_nil))) (pa_cons (pe_tup (pa_cons (pv 8) (pa_cons (pe_op op_add (pe_op op_sub (pe_op op_mul pe_int (pv 3)) pe_int) (pv 14)) pa_nil))) (pa_cons (pe_tup (pa_cons (pe_un un_neg (pv 14)) (pa_cons (pe_un un_neg (pv 14)) pa_nil))) (pa_cons (pe_tup (pa_cons (pe_op op_add (pe_op op_mul pe_int (pv 2)) (pv 14)) (pa_cons (pv 9) pa_nil))) pa_nil)))))))) (pg_name (i := 15) sc_law.nd rfl (Or.inl rfl)) (pss_one (ps_if (pt_cmpR op_notND (vx_methX c_MotionGrid_motion_at pat_MotionGrid_motion_at_0 (.head _) hr (by decide) takes0 (pv 4) (pa_cons (pe_ix (ix_tupK (K := K)) (pv 15) pe_int (fun _ _ => rfl)) (pa_cons (pe_ix (ix_tupK (K := K)) (pv 15) pe_int (fun _ _ => rfl)) pa_nil)) pk_nil) pe_non (nomark _)) (pss_one (ps_ret pe_bl)) pss_nil)))
      (pss_one (ps_for PassesOwn.never rfl (pi_range2 rfl T.b_range (pa_cons (pe_un un_neg pe_int) (pa_cons (pe_op op_add (pe_op op_mul pe_int (pv 3)) pe_int) pa_nil))) (pg_name (i := 16) sc_law.nd rfl (Or.inl rfl)) (pss_one (ps_for PassesOwn.never rfl (pi_range2 rfl T.b_range (pa_cons (pe_un un_neg pe_int) (pa_cons (pe_op op_add (pe_op op_mul pe_int (pv 2)) pe_int) pa_nil))) (pg_name (i := 17) sc_law.nd rfl (Or.inl rfl)) (pss_cons (ps_set (i := 18) sc_law.nd rfl (Or.inl rfl) pe_non)
      (C8.pss_cut (ps_if (PW.pt (pw_and (pt_chain op_le op_lt pe_int (pv 17) (pe_op op_mul pe_int (pv 2))) (pw_and1 (pt_chain op_le op_lt pe_int (pv 16) (pe_op op_mul pe_int (pv 3)))))) (pss_one (ps_set (i := 18) sc_law.nd rfl (Or.inl rfl) (pe_ix (ix_listK (K := K)) (pe_ix (ix_listK (K := K)) (pv 5) (pv 16) (fun _ _ => rfl)) (pv 17) (fun _ _ => rfl)))) pss_nil)
      (pss_one (ps_if (pt_cmpR (op_neDD hr.units) (vx_methX c_MotionGrid_motion_at pat_MotionGrid_motion_at_0 (.head _) hr (by decide) takes0 (pv 4) (pa_cons (pv 17) (pa_cons (pv 16) pa_nil)) pk_nil) (pv 18) (nomark _)) (pss_one (ps_ret pe_bl)) pss_nil))))))))))))))))))))
      (pss_one (ps_ret pe_bl)))))))), ?_⟩
    obtain ⟨KK, EE, hK0, hE, hw⟩ := cW_gen hw
    have S0 := Sep.start0 H
    unfold F_law at hw
    refine ⟨_, rfl, rfl, rfl, H, _, _, _, rfl, S0.sG, (S0.b0.seq q_script), cW_call hw (fun v2393 hw => ?_) (fun e he => (hE e he).elim)⟩
    refine ⟨(by show 2 ≤ sizeLine; decide), fun p2394 n2395 => ?_⟩
    generalize g2396 : upd H p2394 _ = H2397
    obtain ⟨e2398, h2399⟩ := gen_new n2395 g2396
    have h2400 : H2397 p2394 = some (.lst (([4, 4] : (List Int)).map V.int)) := h2399
    have fr2401 := S0.free n2395
    have S2402 := S0.new n2395 e2398 h2400 fr2401
    refine ⟨rfl, rfl, H, _, _, _, rfl, S2402.sG, (hide_nil h2400), cW_call hw (fun v2403 hw p2406 H2404 n2407 e2405 h2408 => ?_) (fun e he => (hE e he).elim)⟩
    have h2409 : H2404 p2406 = some (.lst ((v2403 : (List Int)).map V.int)) := h2408
    have fr2410 := S2402.free n2407
    have S2411 := S2402.new n2407 e2405 h2409 fr2410
    obtain ⟨g2412, hw⟩ := cW_grd hw
    refine ⟨_, rfl, _, _, _, _, rfl, rfl, (SqL.of h2409), (atI_map g2412), _, _, rfl, rfl, ?_⟩
    have hw := cW_bnd hw
    obtain ⟨g2414, hw⟩ := cW_grd hw
    refine ⟨_, rfl, _, _, _, _, rfl, rfl, (SqL.of h2409), (atI_map g2414), _, _, rfl, rfl, ?_⟩
    have hw := cW_bnd hw
    refine ⟨_, rfl, _, rfl, rfl, rfl, fun x2416 dx2417 n2418 n2419 n2420 => ?_⟩
    generalize g2421 : upd (upd H2404 dx2417 _) x2416 _ = H2422
    obtain ⟨e2423, h2424⟩ := gen_obj n2418 n2419 n2420 g2421
    have fr2425 := S2411.free n2418
    have S2426 := S2411.new n2418 e2423 h2424 fr2425
    refine ⟨H, _, _, _, _, rfl, S2426.sG, (S2426.gno (all_cons (.head _) all_nil)), h2424, cW_call hw (fun v2427 hw H2429 G2435 l2428 vs2439 L2440 x2430 eG2436 sG2437 hn2438 n2434 gl2444 nb2441 gb2442 ne2445 h2431 h2433 w2443 => ⟨rfl, ?_⟩) (fun e he => (hE e he).elim)⟩
    have fr2446 := S2426.free n2434
    have S2432 : Sep _ _ _ G2435 H2429 (l2428 :: (L2440 ++ (x2416 :: (p2406 :: (p2394 :: []))))) := Sep.mutgrow S2426 (SameXs.of x2430) (all_cons (.head _) all_nil) (all_cons (some_ne h2431) all_nil) eG2436 sG2437 hn2438 (all_cons (.inr ⟨n2434, gl2444, some_ne h2433⟩) (all_app (fun b hb => .inr ⟨nb2441 b hb, gb2442 b hb, OwAll.there w2443 b hb⟩) (all_cons (.inl (.head _)) (all_cons (.inl (.tail _ (.head _))) (all_cons (.inl (.tail _ (.tail _ (.head _)))) all_nil)))))
    obtain ⟨g2447, hw⟩ := cW_grd hw
    obtain ⟨K2450, hK2451, hw⟩ := cW_push hw
    refine ⟨_, rfl, _, _, rfl, rfl, (.inl ⟨by decide, by decide⟩), _, rfl, g2447.1, g2447.2, fun D2452 n2453 => lc_range (lo := 0) (n := Int.toNat ((2 * (1 + (itD (v2403) (1)))))) (fun i H' => ∃ (G' : Hp) (acc2455 : (List (List PyData))) (vs2456 : List V) (L2454 : List Addr), Same G2435 G' ∧ Sep [] H H G' H' (D2452 :: (L2454 ++ (p2406 :: (x2416 :: (l2428 :: (L2440 ++ [])))))) ∧ H' p2406 = some (.lst ((v2403 : (List Int)).map V.int)) ∧ H' x2416 = some (.ins AD.c_MotionGrid dx2417 [("_width", V.int (v2427.width)), ("_height", V.int (v2427.height)), ("_lines", V.ref l2428)]) ∧ H' l2428 = some (.lst (vs2439)) ∧ H' D2452 = some (.lst vs2456) ∧ OwAll G' H' L2440 (vs2439) ((v2427.lines : (List (List PyData))).map (oL (oF encD))) ∧ OwAll G' H' L2454 vs2456 ((acc2455 : (List (List PyData))).map (oL (oF encD))) ∧ (∀ b ∈ L2454, H2429 b = none) ∧ (∀ b ∈ L2454, b ≠ D2452) ∧ Same H2429 H' ∧ cW (mapA (List.drop i (rng (0) (Int.toNat ((2 * (1 + (itD (v2403) (1)))))))) acc2455 (fun x => noEr (F_law_c1 ((1 + (itD (v2403) (0)))) x))) K2450 EE) ?_ ?_ ?_⟩
    · generalize g2457 : upd H2429 D2452 _ = H2458
      obtain ⟨e2459, h2460⟩ := gen_new n2453 g2457
      have fr2461 := S2432.free n2453
      have S2462 := S2432.new n2453 e2459 h2460 fr2461
      have h2463 := (e2459 _ _ ((SameXs.of x2430) _ _ (e2423 _ _ h2409) (ni1 (ne_of_none h2409 n2418))))
      have h2464 := (e2459 _ _ h2431)
      have h2465 := (e2459 _ _ h2433)
      have w2466 : OwAll G2435 H2458 L2440 (vs2439) ((v2427.lines : (List (List PyData))).map (oL (oF encD))) := (OwAll.mono (Same.refl _) (keeps_same e2459) w2443)
      exact ⟨_, [], [], [], Same.refl _, (S2462.sub (all_cons (.head _) (all_app (L := []) all_nil (all_cons (.tail _ (.tail _ (List.mem_append_right _ (.tail _ (.head _))))) (all_cons (.tail _ (.tail _ (List.mem_append_right _ (.head _)))) (all_cons (.tail _ (.head _)) (all_app ((fun b hb => (.tail _ (.tail _ (List.mem_append_left _ hb)))) : ∀ b ∈ L2440, b ∈ (D2452 :: (l2428 :: (L2440 ++ (x2416 :: (p2406 :: (p2394 :: []))))))) all_nil))))))), h2463, h2464, h2465, h2460, w2466, OwAll.nil, all_nil, all_nil, e2459, hw⟩
    · intro i H2467 hi hw
      obtain ⟨G2470, acc2472, vs2473, L2475, eG2471, S2468, h2479, h2480, h2481, h2469, w2482, d2474, nb2476, nd2477, eo2478, hw⟩ := hw
      obtain ⟨z2483, hw⟩ := cW_mapA (rng_get hi) hw
      generalize (0 + (i : Int)) = x2484 at hw ⊢
      have hw := cW_noEr hw
      have hw : cW (F_law_c1 ((1 + (itD (v2403) (0)))) (x2484)) _ (fun _ => False) := hw
      unfold F_law_c1 at hw
      refine ⟨rfl, ?_⟩
      refine tyes_go ?_
      have r2486 : Rp G2470 (V.non) (encD (encN (()))) := .non
      refine ⟨(by show 1 ≤ sizeLine; decide), fun p2487 n2488 => ?_⟩
      generalize g2489 : upd H2467 p2487 _ = H2490
      obtain ⟨e2491, h2492⟩ := gen_new n2488 g2489
      have h2493 : H2490 p2487 = some (.lst ([(V.non)])) := h2492
      have fr2494 := S2468.free n2488
      have S2495 := S2468.new n2488 e2491 h2493 fr2494
      have d2496 : RpAll G2470 ([(V.non)]) (([(encN (()))] : (List PyData)).map encD) := (RpAll.cons r2486 RpAll.nil)
      obtain ⟨g2497, hw⟩ := cW_grd hw
      refine ⟨_, rfl, _, _, rfl, rfl, (.inl ⟨by decide, by decide⟩), _, _, _, rfl, rfl, h2493, g2497.1, g2497.2.1, (rep_len d2496 g2497.2.2), fun p2498 n2499 => ?_⟩
      generalize g2500 : upd H2490 p2498 _ = H2501
      obtain ⟨e2502, h2503⟩ := gen_new n2499 g2500
      have h2504 : H2501 p2498 = some (.lst ((List.replicate (Int.toNat ((2 * (1 + (itD (v2403) (0)))))) ([(V.non)])).flatten)) := h2503
      have fr2505 := S2495.free n2499
      have S2506 := S2495.new n2499 e2502 h2504 fr2505
      have d2507 : RpAll G2470 ((List.replicate (Int.toNat ((2 * (1 + (itD (v2403) (0)))))) ([(V.non)])).flatten) ((repL ([(encN (()))]) ((2 * (1 + (itD (v2403) (0))))) : (List PyData)).map encD) := rep_all ((2 * (1 + (itD (v2403) (0))))) d2496
      have w2508 : OwAll G2470 H2501 L2475 (vs2473) ((acc2472 : (List (List PyData))).map (oL (oF encD))) := (OwAll.mono (Same.refl _) (keeps_same e2502) (OwAll.mono (Same.refl _) (keeps_same e2491) d2474))
      have h2509 := (e2502 _ _ (e2491 _ _ h2469))
      refine ⟨_, h2509, (app_len (OwAll.rpA w2508 (encO_L encO_F) S2506.sG) z2483), ?_⟩
      generalize g2510 : upd H2501 D2452 _ = H2511
      obtain ⟨x2512, h2513⟩ := gen_mut g2510
      have S2514 := S2506.mut1 x2512 (.tail _ (.tail _ (.head _))) h2513
      have hw := cW_ok hw
      have h2515 := (x2512 _ _ (e2502 _ _ (e2491 _ _ h2479)) (ne_of_none ((SameXs.of x2430) _ _ (e2423 _ _ h2409) (ni1 (ne_of_none h2409 n2418))) n2453))
      have h2516 := (x2512 _ _ (e2502 _ _ (e2491 _ _ h2480)) (ne_of_none h2431 n2453))
      have h2517 := (x2512 _ _ (e2502 _ _ (e2491 _ _ h2481)) (ne_of_none h2433 n2453))
      have w2518 : OwAll G2470 H2511 L2440 (vs2439) ((v2427.lines : (List (List PyData))).map (oL (oF encD))) := (OwAll.mono (Same.refl _) (keeps_mut x2512 ((there_ne (fun b_ hb_ => (S2432.ow b_ (((fun b hb => (.tail _ (List.mem_append_left _ hb))) : ∀ b ∈ L2440, b ∈ (l2428 :: (L2440 ++ (x2416 :: (p2406 :: (p2394 :: [])))))) b_ hb_)).2.1) n2453) : ∀ b ∈ L2440, b ≠ D2452)) (OwAll.mono (Same.refl _) (keeps_same e2502) (OwAll.mono (Same.refl _) (keeps_same e2491) w2482)))
      exact ⟨_, (acc2472 ++ [repL ([(encN (()))]) ((2 * (1 + (itD (v2403) (0)))))]), _, (L2475 ++ (p2498 :: ([] : List Addr))), eG2471, (S2514.sub (all_cons (.tail _ (.tail _ (.head _))) (all_app (all_app ((fun b hb => (.tail _ (.tail _ (.tail _ (List.mem_append_left _ hb))))) : ∀ b ∈ L2475, b ∈ (p2498 :: (p2487 :: (D2452 :: (L2475 ++ (p2406 :: (x2416 :: (l2428 :: (L2440 ++ []))))))))) (all_cons (.head _) all_nil)) (all_cons (.tail _ (.tail _ (.tail _ (List.mem_append_right _ (.head _))))) (all_cons (.tail _ (.tail _ (.tail _ (List.mem_append_right _ (.tail _ (.head _)))))) (all_cons (.tail _ (.tail _ (.tail _ (List.mem_append_right _ (.tail _ (.tail _ (.head _))))))) (all_app ((fun b hb => (.tail _ (.tail _ (.tail _ (List.mem_append_right _ (.tail _ (.tail _ (.tail _ (List.mem_append_left _ hb))))))))) : ∀ b ∈ L2440, b ∈ (p2498 :: (p2487 :: (D2452 :: (L2475 ++ (p2406 :: (x2416 :: (l2428 :: (L2440 ++ []))))))))) all_nil))))))), h2515, h2516, h2517, h2513, w2518, (OwAll.mono (Same.refl _) (keeps_mut x2512 ((all_app nd2477 (all_cons (ne_of_none (e2491 _ _ h2469) n2499).symm all_nil)) : ∀ b ∈ (L2475 ++ (p2498 :: ([] : List Addr))), b ≠ D2452)) (OwAll.snocM w2508 (Ow.list h2504 (OwAll.frzs d2507) all_nil) ((fun b hb => (nm_cons ((there_ne (fun b_ hb_ => (S2495.ow b_ (((fun b hb => (.tail _ (.tail _ (List.mem_append_left _ hb)))) : ∀ b ∈ L2475, b ∈ (p2487 :: (D2452 :: (L2475 ++ (p2406 :: (x2416 :: (l2428 :: (L2440 ++ [])))))))) b_ hb_)).2.1) n2499) b hb) nm_nil)) : ∀ b ∈ L2475, b ∉ (p2498 :: ([] : List Addr))))), ((all_app nb2476 (all_cons (none_of_same (Same.trans eo2478 e2491) n2499) all_nil)) : ∀ b ∈ (L2475 ++ (p2498 :: ([] : List Addr))), H2429 b = none), ((all_app nd2477 (all_cons (ne_of_none (e2491 _ _ h2469) n2499).symm all_nil)) : ∀ b ∈ (L2475 ++ (p2498 :: ([] : List Addr))), b ≠ D2452), (same_mut (Same.trans (Same.trans eo2478 e2491) e2502) x2512 n2453), hw⟩
    intro H2519 hw
    obtain ⟨G2522, acc2524, vs2525, L2527, eG2523, S2520, h2531, h2532, h2533, h2521, w2534, d2526, nb2528, nd2529, eo2530, hw⟩ := hw
    have hw := hK2451 _ (cW_mapA0 (rng_len _ _).symm hw)
    have fr2535 := S2432.free n2453
    refine ⟨(by show 1 ≤ sizeLine; decide), fun p2536 n2537 => ?_⟩
    generalize g2538 : upd H2519 p2536 _ = H2539
    obtain ⟨e2540, h2541⟩ := gen_new n2537 g2538
    have h2542 : H2539 p2536 = some (.lst (([0] : (List Int)).map V.int)) := h2541
    have fr2543 := S2520.free n2537
    have S2544 := S2520.new n2537 e2540 h2542 fr2543
    refine ⟨_, rfl, _, rfl, _, _, rfl, (S2544.b0.seq q_script), fun p2545 n2546 => ?_⟩
    generalize g2547 : upd H2539 p2545 _ = H2548
    obtain ⟨e2549, h2550⟩ := gen_new n2546 g2547
    have h2551 : H2548 p2545 = some (.lst ((cutL (script') (some (1)) none : (List Int)).map V.int)) := cut_map h2550
    have fr2552 := S2544.free n2546
    have S2553 := S2544.new n2546 e2549 h2551 fr2552
    obtain ⟨g2554, hw⟩ := cW_grd hw
    have h2555 := (e2549 _ _ h2542)
    refine ⟨_, _, _, _, rfl, rfl, h2555, h2551, (cat_lenM g2554), fun p2556 n2557 => ?_⟩
    generalize g2558 : upd H2548 p2556 _ = H2559
    obtain ⟨e2560, h2561⟩ := gen_new n2557 g2558
    have h2562 : H2559 p2556 = some (.lst ((([0]) ++ (cutL (script') (some (1)) none) : (List Int)).map V.int)) := cat_map h2561
    have fr2563 := S2553.free n2557
    have S2564 := S2553.new n2557 e2560 h2562 fr2563
    obtain ⟨K2567, hK2568, hw⟩ := cW_push hw
    refine ⟨_, rfl, ⟨_, (SqL.of h2562)⟩, for_list (K := K) (a := p2556) (xs := (([0]) ++ (cutL (script') (some (1)) none) : (List Int)).map V.int) (fun i σ H' => ∃ (actual_2569 : St_MotionGrid) (vs2570 : List V) (L2571 : List Addr) (grid_2572 : (List (List PyData))) (vs2573 : List V) (L2574 : List Addr) (u2575 : Option V) (u2576 : Option V) (u2577 : Option V) (u2578 : Option V) (u2579 : Option V) (u2580 : Option V) (u2581 : Option V) (u2582 : Option V) (u2583 : Option V) (u2584 : Option V) (u2585 : Option V) (u2586 : Option V) (u2587 : Option V) (G' : Hp), σ = [some (V.ref a_script), some (V.ref p2406), some (V.int ((1 + (itD (v2403) (0))))), some (V.int ((1 + (itD (v2403) (1))))), some (V.ref x2416), some (V.ref D2452), u2575, u2576, u2577, u2578, u2579, u2580, u2581, u2582, u2583, u2584, u2585, u2586, u2587] ∧ Same G2522 G' ∧ Sep [] H H G' H' (p2406 :: (x2416 :: (l2428 :: (D2452 :: (p2556 :: (L2571 ++ (L2574 ++ []))))))) ∧ H' p2406 = some (.lst ((v2403 : (List Int)).map V.int)) ∧ H' x2416 = some (.ins AD.c_MotionGrid dx2417 [("_width", V.int (actual_2569.width)), ("_height", V.int (actual_2569.height)), ("_lines", V.ref l2428)]) ∧ H' l2428 = some (.lst (vs2570)) ∧ H' D2452 = some (.lst (vs2573)) ∧ H' p2556 = some (.lst ((([0]) ++ (cutL (script') (some (1)) none) : (List Int)).map V.int)) ∧ (∀ b ∈ L2571, b ≠ p2406) ∧ (∀ b ∈ L2571, b ≠ x2416) ∧ (∀ b ∈ L2571, b ≠ l2428) ∧ (∀ b ∈ L2571, b ≠ D2452) ∧ (∀ b ∈ L2571, b ≠ p2556) ∧ (∀ b ∈ L2571, b ∉ L2574) ∧ (∀ b ∈ L2574, b ≠ p2406) ∧ (∀ b ∈ L2574, b ≠ x2416) ∧ (∀ b ∈ L2574, b ≠ l2428) ∧ (∀ b ∈ L2574, b ≠ D2452) ∧ (∀ b ∈ L2574, b ≠ p2556) ∧ OwAll G' H' L2571 (vs2570) ((actual_2569.lines : (List (List PyData))).map (oL (oF encD))) ∧ OwAll G' H' L2574 (vs2573) ((grid_2572 : (List (List PyData))).map (oL (oF encD))) ∧ cW (forR (List.drop i (([0]) ++ (cutL (script') (some (1)) none))) (actual_2569, grid_2572) (fun s x => F_law_b2 ((1 + (itD (v2403) (0)))) ((1 + (itD (v2403) (1)))) (s.1) (s.2) x)) K2567 EE) ?_ ?_ ?_ ?_⟩
    · have h2588 := (e2560 _ _ (e2549 _ _ (e2540 _ _ h2531)))
      have h2589 := (e2560 _ _ (e2549 _ _ (e2540 _ _ h2532)))
      have h2590 := (e2560 _ _ (e2549 _ _ (e2540 _ _ h2533)))
      have h2591 := (e2560 _ _ (e2549 _ _ (e2540 _ _ h2521)))
      have w2592 : OwAll G2522 H2559 L2440 (vs2439) ((v2427.lines : (List (List PyData))).map (oL (oF encD))) := (OwAll.mono (Same.refl _) (keeps_same e2560) (OwAll.mono (Same.refl _) (keeps_same e2549) (OwAll.mono (Same.refl _) (keeps_same e2540) w2534)))
      have w2593 : OwAll G2522 H2559 L2527 (vs2525) ((acc2524 : (List (List PyData))).map (oL (oF encD))) := (OwAll.mono (Same.refl _) (keeps_same e2560) (OwAll.mono (Same.refl _) (keeps_same e2549) (OwAll.mono (Same.refl _) (keeps_same e2540) d2526)))
      exact ⟨(v2427), (vs2439), L2440, (acc2524), (vs2525), L2527, _, _, _, _, _, _, _, _, _, _, _, _, _, _, rfl, (Same.refl _), (S2564.sub (all_cons (.tail _ (.tail _ (.tail _ (.tail _ (List.mem_append_right _ (.head _)))))) (all_cons (.tail _ (.tail _ (.tail _ (.tail _ (List.mem_append_right _ (.tail _ (.head _))))))) (all_cons (.tail _ (.tail _ (.tail _ (.tail _ (List.mem_append_right _ (.tail _ (.tail _ (.head _)))))))) (all_cons (.tail _ (.tail _ (.tail _ (.head _)))) (all_cons (.head _) (all_app ((fun b hb => (.tail _ (.tail _ (.tail _ (.tail _ (List.mem_append_right _ (.tail _ (.tail _ (.tail _ (List.mem_append_left _ hb)))))))))) : ∀ b ∈ L2440, b ∈ (p2556 :: (p2545 :: (p2536 :: (D2452 :: (L2527 ++ (p2406 :: (x2416 :: (l2428 :: (L2440 ++ [])))))))))) (all_app ((fun b hb => (.tail _ (.tail _ (.tail _ (.tail _ (List.mem_append_left _ hb)))))) : ∀ b ∈ L2527, b ∈ (p2556 :: (p2545 :: (p2536 :: (D2452 :: (L2527 ++ (p2406 :: (x2416 :: (l2428 :: (L2440 ++ [])))))))))) all_nil)))))))), h2588, h2589, h2590, h2591, h2562, (new_ne2 nb2441 (S2426.ow _ (.tail _ (.head _))).2.1), (new_ne2 nb2441 (S2426.ow _ (.head _)).2.1), ne2445, (there_ne (fun b_ hb_ => (S2432.ow b_ (((fun b hb => (.tail _ (List.mem_append_left _ hb))) : ∀ b ∈ L2440, b ∈ (l2428 :: (L2440 ++ (x2416 :: (p2406 :: (p2394 :: [])))))) b_ hb_)).2.1) n2453), (there_ne (fun b_ hb_ => (S2553.ow b_ (((fun b hb => (.tail _ (.tail _ (.tail _ (List.mem_append_right _ (.tail _ (.tail _ (.tail _ (List.mem_append_left _ hb))))))))) : ∀ b ∈ L2440, b ∈ (p2545 :: (p2536 :: (D2452 :: (L2527 ++ (p2406 :: (x2416 :: (l2428 :: (L2440 ++ []))))))))) b_ hb_)).2.1) n2557), (fun b hb => ((nl_symm (new_nl nb2528 (fun b_ hb_ => (S2432.ow b_ (((fun b hb => (.tail _ (List.mem_append_left _ hb))) : ∀ b ∈ L2440, b ∈ (l2428 :: (L2440 ++ (x2416 :: (p2406 :: (p2394 :: [])))))) b_ hb_)).2.1))) b hb)), (new_ne2 nb2528 (S2432.ow _ (.tail _ (List.mem_append_right _ (.tail _ (.head _))))).2.1), (new_ne2 nb2528 (S2432.ow _ (.tail _ (List.mem_append_right _ (.head _)))).2.1), (new_ne2 nb2528 (S2432.ow _ (.head _)).2.1), nd2529, (there_ne (fun b_ hb_ => (S2553.ow b_ (((fun b hb => (.tail _ (.tail _ (.tail _ (List.mem_append_left _ hb))))) : ∀ b ∈ L2527, b ∈ (p2545 :: (p2536 :: (D2452 :: (L2527 ++ (p2406 :: (x2416 :: (l2428 :: (L2440 ++ []))))))))) b_ hb_)).2.1) n2557), w2592, w2593, hw⟩
    · intro i σ H2594 _ hw
      obtain ⟨actual_2569, vs2570, L2571, grid_2572, vs2573, L2574, u2575, u2576, u2577, u2578, u2579, u2580, u2581, u2582, u2583, u2584, u2585, u2586, u2587, G2614, rfl, eG2615, S2595, h2596, h2597, h2598, h2599, h2600, ne2601, ne2602, ne2603, ne2604, ne2605, ne2606, ne2607, ne2608, ne2609, ne2610, ne2611, w2612, w2613, hw⟩ := hw
      exact (SqL.of h2600)
    · intro i x σ H2616 hj hw
      obtain ⟨actual_2569, vs2570, L2571, grid_2572, vs2573, L2574, u2575, u2576, u2577, u2578, u2579, u2580, u2581, u2582, u2583, u2584, u2585, u2586, u2587, G2636, rfl, eG2637, S2617, h2618, h2619, h2620, h2621, h2622, ne2623, ne2624, ne2625, ne2626, ne2627, ne2628, ne2629, ne2630, ne2631, ne2632, ne2633, w2634, w2635, hw⟩ := hw
      obtain ⟨x2638, hx, rfl⟩ := map_get hj
      have hw := cW_forR hx hw
      have hw : cW (F_law_b2 ((1 + (itD (v2403) (0)))) ((1 + (itD (v2403) (1)))) (actual_2569) (grid_2572) (x2638)) _ EE := hw
      unfold F_law_b2 at hw
      obtain ⟨K2641, hK2642, hw⟩ := cW_name hw
      refine ⟨_, rfl, .inl ⟨_, rfl, ?_⟩⟩
      refine ⟨_, _, rfl, rfl, (divW_lit (by decide) (by decide)), (by show 3 ≤ sizeLine; decide), fun p2644 n2645 => ?_⟩
      generalize g2646 : upd H2616 p2644 _ = H2647
      obtain ⟨e2648, h2649⟩ := gen_new n2645 g2646
      have h2650 : H2647 p2644 = some (.lst (([10, 10, 4] : (List Int)).map V.int)) := h2649
      have fr2651 := S2617.free n2645
      have S2652 := S2617.new n2645 e2648 h2650 fr2651
      refine ⟨rfl, rfl, G2636, _, _, _, rfl, S2652.sG, (hide_nil h2650), cW_call hw (fun v2653 hw p2656 H2654 n2657 e2655 h2658 => ?_) (fun e he => (hE e he).elim)⟩
      have h2659 : H2654 p2656 = some (.lst ((v2653 : (List Int)).map V.int)) := h2658
      have fr2660 := S2652.free n2657
      have S2661 := S2652.new n2657 e2655 h2659 fr2660
      obtain ⟨g2662, hw⟩ := cW_grd hw
      refine ⟨_, rfl, _, _, _, _, rfl, rfl, (SqL.of h2659), (atI_map g2662), .inl ⟨_, rfl, ?_⟩⟩
      obtain ⟨g2663, hw⟩ := cW_grd hw
      refine ⟨_, rfl, _, _, rfl, rfl, (.inl ⟨by decide, by decide⟩), _, _, rfl, rfl, g2663, ?_⟩
      have hw := cW_bnd hw
      obtain ⟨g2665, hw⟩ := cW_grd hw
      refine ⟨_, rfl, _, _, _, _, rfl, rfl, (SqL.of h2659), (atI_map g2665), .inl ⟨_, rfl, ?_⟩⟩
      obtain ⟨g2666, hw⟩ := cW_grd hw
      refine ⟨_, rfl, _, _, rfl, rfl, (.inl ⟨by decide, by decide⟩), _, _, rfl, rfl, g2666, ?_⟩
      have hw := cW_bnd hw
      obtain ⟨K2680, hK2681, hw⟩ := cW_push hw
      refine ⟨_, rfl, (by decide), (by decide), for_range (lo := 0) (n := Int.toNat (2)) (fun i σ H' => ∃ (u2682 : Option V) (u2683 : Option V) (G' : Hp), σ = [some (V.ref a_script), some (V.ref p2406), some (V.int ((1 + (itD (v2403) (0))))), some (V.int ((1 + (itD (v2403) (1))))), some (V.ref x2416), some (V.ref D2452), some (V.int (x2638)), some (V.ref p2656), some (V.int (((itD (v2653) (0)) % (2 * (1 + (itD (v2403) (0))))))), some (V.int (((itD (v2653) (1)) % (2 * (1 + (itD (v2403) (1))))))), u2682, u2683, u2581, u2582, u2583, u2584, u2585, u2586, u2587] ∧ Same G2636 G' ∧ Sep [] H H G' H' (p2406 :: (x2416 :: (l2428 :: (D2452 :: (p2656 :: (p2556 :: (L2571 ++ (L2574 ++ [])))))))) ∧ H' p2406 = some (.lst ((v2403 : (List Int)).map V.int)) ∧ H' x2416 = some (.ins AD.c_MotionGrid dx2417 [("_width", V.int (actual_2569.width)), ("_height", V.int (actual_2569.height)), ("_lines", V.ref l2428)]) ∧ H' l2428 = some (.lst (vs2570)) ∧ H' D2452 = some (.lst (vs2573)) ∧ H' p2656 = some (.lst ((v2653 : (List Int)).map V.int)) ∧ H' p2556 = some (.lst ((([0]) ++ (cutL (script') (some (1)) none) : (List Int)).map V.int)) ∧ OwAll G' H' L2571 (vs2570) ((actual_2569.lines : (List (List PyData))).map (oL (oF encD))) ∧ OwAll G' H' L2574 (vs2573) ((grid_2572 : (List (List PyData))).map (oL (oF encD))) ∧ cW (forR (List.drop i (rng (0) (Int.toNat (2)))) () (fun s x => F_law_b3 (actual_2569) (grid_2572) (((itD (v2653) (0)) % (2 * (1 + (itD (v2403) (0)))))) (((itD (v2653) (1)) % (2 * (1 + (itD (v2403) (1))))))  x)) K2680 EE) ?_ ?_ ?_⟩
      · have h2684 := (e2655 _ _ (e2648 _ _ h2618))
        have h2685 := (e2655 _ _ (e2648 _ _ h2619))
        have h2686 := (e2655 _ _ (e2648 _ _ h2620))
        have h2687 := (e2655 _ _ (e2648 _ _ h2621))
        have h2688 := (e2655 _ _ (e2648 _ _ h2622))
        have w2689 : OwAll G2636 H2654 L2571 (vs2570) ((actual_2569.lines : (List (List PyData))).map (oL (oF encD))) := (OwAll.mono (Same.refl _) (keeps_same e2655) (OwAll.mono (Same.refl _) (keeps_same e2648) w2634))
        have w2690 : OwAll G2636 H2654 L2574 (vs2573) ((grid_2572 : (List (List PyData))).map (oL (oF encD))) := (OwAll.mono (Same.refl _) (keeps_same e2655) (OwAll.mono (Same.refl _) (keeps_same e2648) w2635))
        exact ⟨_, _, _, rfl, (Same.refl _), (S2661.sub (all_cons (.tail _ (.tail _ (.head _))) (all_cons (.tail _ (.tail _ (.tail _ (.head _)))) (all_cons (.tail _ (.tail _ (.tail _ (.tail _ (.head _))))) (all_cons (.tail _ (.tail _ (.tail _ (.tail _ (.tail _ (.head _)))))) (all_cons (.head _) (all_cons (.tail _ (.tail _ (.tail _ (.tail _ (.tail _ (.tail _ (.head _))))))) (all_app ((fun b hb => (.tail _ (.tail _ (.tail _ (.tail _ (.tail _ (.tail _ (.tail _ (List.mem_append_left _ hb))))))))) : ∀ b ∈ L2571, b ∈ (p2656 :: (p2644 :: (p2406 :: (x2416 :: (l2428 :: (D2452 :: (p2556 :: (L2571 ++ (L2574 ++ [])))))))))) (all_app ((fun b hb => (.tail _ (.tail _ (.tail _ (.tail _ (.tail _ (.tail _ (.tail _ (List.mem_append_right _ (List.mem_append_left _ hb)))))))))) : ∀ b ∈ L2574, b ∈ (p2656 :: (p2644 :: (p2406 :: (x2416 :: (l2428 :: (D2452 :: (p2556 :: (L2571 ++ (L2574 ++ [])))))))))) all_nil))))))))), h2684, h2685, h2686, h2687, h2659, h2688, w2689, w2690, hw⟩
      · intro i σ H2691 hi hw
        obtain ⟨u2682, u2683, G2701, rfl, eG2702, S2692, h2693, h2694, h2695, h2696, h2697, h2698, w2699, w2700, hw⟩ := hw
        have hw := cW_forR (rng_get hi) hw
        generalize (0 + (i : Int)) = x2703 at hw ⊢
        have hw : cW (F_law_b3 (actual_2569) (grid_2572) (((itD (v2653) (0)) % (2 * (1 + (itD (v2403) (0)))))) (((itD (v2653) (1)) % (2 * (1 + (itD (v2403) (1))))))  (x2703)) _ EE := hw
        unfold F_law_b3 at hw
        obtain ⟨K2704, hK2705, hw⟩ := cW_name hw
        refine ⟨_, rfl, _, _, _, rfl, h2694, rfl, _, rfl, _, rfl, _, rfl, _, _, rfl, rfl, rfl, rfl, G2701, _, _, _, _, L2571, actual_2569, _, _, _, rfl, S2692.sG, (hide_nil h2694), (hide_nil h2695), (OwAll.mono (Same.refl _) (keeps_hide (((fun b hb => nm_nil) : ∀ b ∈ L2571, b ∉ []))) w2699), cW_call hw (fun v2707 hw v2710 H2708 G2711 e2709 eG2712 sG2713 hn2714 r2715 => ?_) (fun e he => (hE e he).elim)⟩
        have S2716 := S2692.step e2709 eG2712 sG2713 hn2714
        obtain ⟨a2717, v2719, v2720, rfl, h2718, r2721, r2722⟩ := rp_tup2 r2715
        obtain rfl := rp_int r2721
        obtain rfl := rp_int r2722
        refine ⟨_, rfl, _, _, _, _, _, rfl, (.ty _), (.base (.tup (S2716.sG _ _ h2718))), rfl, _, rfl, ?_⟩
        refine iteF ?_
        have h2723 := (e2709 _ _ h2696)
        have w2724 : OwAll G2711 H2708 L2574 (vs2573) ((grid_2572 : (List (List PyData))).map (oL (oF encD))) := (OwAll.mono eG2712 keeps_refl (OwAll.mono (Same.refl _) (keeps_same e2709) w2700))
        refine ⟨_, rfl, _, rfl, _, rfl, _, rfl, _, rfl, rfl, rfl, G2711, _, _, L2574, grid_2572, _, _, _, rfl, S2716.sG, (hide_nil h2723), (OwAll.mono (Same.refl _) (keeps_hide (((fun b hb => nm_nil) : ∀ b ∈ L2574, b ∉ []))) w2724), cW_call hw (fun v2725 hw v2728 H2726 G2729 e2727 eG2730 sG2731 hn2732 r2733 => ?_) (fun e he => (hE e he).elim)⟩
        have S2734 := S2716.step e2727 eG2730 sG2731 hn2732
        obtain ⟨a2735, v2737, v2738, rfl, h2736, r2739, r2740⟩ := rp_tup2 r2733
        obtain rfl := rp_int r2739
        obtain rfl := rp_int r2740
        refine ⟨_, _, (rp_mk2 (S2734.sG _ _ (eG2730 _ _ h2718)) (.int _) (.int _)), (rp_mk2 (S2734.sG _ _ h2736) (.int _) (.int _)), _, rfl, ?_⟩
        refine iteN (fun c2741 => ?_) (fun c2741 => ?_)
        · have hw := cW_neg c2741 hw
          have hw := cW_ok hw
          have hw := hK2705 (.rt _) hw
          have hw := hK2681 (.rt _) hw
          have hw := cW_ok hw
          have hw := hK2642 (.rt _) hw
          have hw := hK2568 (.rt _) hw
          have hw := cW_ok hw
          exact eq_bl (k _) (hK0 _ hw).symm
        · have hw := cW_pos c2741 hw
          have hw := cW_ok hw
          have hw := hK2705 _ hw
          have h2742 := (e2727 _ _ (e2709 _ _ h2693))
          have h2743 := (e2727 _ _ (e2709 _ _ h2694))
          have h2744 := (e2727 _ _ (e2709 _ _ h2695))
          have h2745 := (e2727 _ _ h2723)
          have h2746 := (e2727 _ _ (e2709 _ _ h2697))
          have h2747 := (e2727 _ _ (e2709 _ _ h2698))
          have w2748 : OwAll G2729 H2726 L2571 (vs2570) ((actual_2569.lines : (List (List PyData))).map (oL (oF encD))) := (OwAll.mono (Same.trans eG2712 eG2730) keeps_refl (OwAll.mono (Same.refl _) (keeps_same e2727) (OwAll.mono (Same.refl _) (keeps_same e2709) w2699)))
          have w2749 : OwAll G2729 H2726 L2574 (vs2573) ((grid_2572 : (List (List PyData))).map (oL (oF encD))) := (OwAll.mono eG2730 keeps_refl (OwAll.mono (Same.refl _) (keeps_same e2727) w2724))
          exact ⟨_, _, _, rfl, (Same.trans (Same.trans eG2702 eG2712) eG2730), S2734, h2742, h2743, h2744, h2745, h2746, h2747, w2748, w2749, hw⟩
      · intro σ H2750 hw
        obtain ⟨u2682, u2683, G2760, rfl, eG2761, S2751, h2752, h2753, h2754, h2755, h2756, h2757, w2758, w2759, hw⟩ := hw
        have hw := cW_aftgo (hK2681 _ (cW_forR0 (rng_len _ _).symm hw))
        have hw : cW (F_law_r3 ((1 + (itD (v2403) (0)))) ((1 + (itD (v2403) (1)))) (actual_2569) (grid_2572) (x2638) (v2653) (((itD (v2653) (0)) % (2 * (1 + (itD (v2403) (0)))))) (((itD (v2653) (1)) % (2 * (1 + (itD (v2403) (1)))))) ) _ EE := hw
        unfold F_law_r3 at hw
        refine ⟨_, rfl, _, rfl, _, _, rfl, rfl, (divW_lit (by decide) (by decide)), _, _, rfl, rfl, (.inl ⟨by decide, by decide⟩), _, rfl, _, _, rfl, rfl, (divW_lit (by decide) (by decide)), _, _, rfl, rfl, (.inl ⟨by decide, by decide⟩), rfl, rfl, G2760, _, _, L2574, grid_2572, _, _, _, rfl, S2751.sG, (hide_nil h2755), (OwAll.mono (Same.refl _) (keeps_hide (((fun b hb => nm_nil) : ∀ b ∈ L2574, b ∉ []))) w2759), cW_call hw (fun v2762 hw v2765 H2763 G2766 e2764 eG2767 sG2768 hn2769 r2770 => ?_) (fun e he => (hE e he).elim)⟩
        have S2771 := S2751.step e2764 eG2767 sG2768 hn2769
        obtain ⟨a2772, v2774, v2775, rfl, h2773, r2776, r2777⟩ := rp_tup2 r2770
        obtain rfl := rp_int r2776
        obtain rfl := rp_int r2777
        have h2778 := (e2764 _ _ h2755)
        have w2779 : OwAll G2766 H2763 L2574 (vs2573) ((grid_2572 : (List (List PyData))).map (oL (oF encD))) := (OwAll.mono eG2767 keeps_refl (OwAll.mono (Same.refl _) (keeps_same e2764) w2759))
        refine ⟨_, rfl, _, rfl, _, _, rfl, rfl, (divW_lit (by decide) (by decide)), _, _, rfl, rfl, (.inl ⟨by decide, by decide⟩), _, rfl, _, _, rfl, rfl, (divW_lit (by decide) (by decide)), _, _, rfl, rfl, (.inl ⟨by decide, by decide⟩), rfl, rfl, G2766, _, _, L2574, grid_2572, _, _, _, rfl, S2771.sG, (hide_nil h2778), (OwAll.mono (Same.refl _) (keeps_hide (((fun b hb => nm_nil) : ∀ b ∈ L2574, b ∉ []))) w2779), cW_call hw (fun v2780 hw v2783 H2781 G2784 e2782 eG2785 sG2786 hn2787 r2788 => ?_) (fun e he => (hE e he).elim)⟩
        have S2789 := S2771.step e2782 eG2785 sG2786 hn2787
        obtain ⟨a2790, v2792, v2793, rfl, h2791, r2794, r2795⟩ := rp_tup2 r2788
        obtain rfl := rp_int r2794
        obtain rfl := rp_int r2795
        have h2796 := (e2782 _ _ (e2764 _ _ h2753))
        have h2797 := (e2782 _ _ (e2764 _ _ h2754))
        have w2798 : OwAll G2784 H2781 L2571 (vs2570) ((actual_2569.lines : (List (List PyData))).map (oL (oF encD))) := (OwAll.mono (Same.trans eG2767 eG2785) keeps_refl (OwAll.mono (Same.refl _) (keeps_same e2782) (OwAll.mono (Same.refl _) (keeps_same e2764) w2758)))
        refine ⟨_, rfl, _, _, _, rfl, h2796, rfl, _, rfl, _, _, rfl, rfl, (divW_lit (by decide) (by decide)), _, rfl, _, _, rfl, rfl, (divW_lit (by decide) (by decide)), rfl, rfl, G2784, _, _, _, _, L2571, actual_2569, _, _, _, rfl, S2789.sG, (hide_nil h2796), (hide_nil h2797), (OwAll.mono (Same.refl _) (keeps_hide (((fun b hb => nm_nil) : ∀ b ∈ L2571, b ∉ []))) w2798), cW_call hw (fun v2799 hw v2802 H2800 G2803 e2801 eG2804 sG2805 hn2806 r2807 => ?_) (fun e he => (hE e he).elim)⟩
        have S2808 := S2789.step e2801 eG2804 sG2805 hn2806
        obtain ⟨a2809, v2811, v2812, v2813, v2814, rfl, h2810, r2815, r2816, r2817, r2818⟩ := rp_tup4 r2807
        obtain rfl := rp_int r2815
        obtain rfl := rp_int r2816
        obtain ⟨a2819, v2821, v2822, rfl, h2820, r2823, r2824⟩ := rp_tup2 r2817
        obtain rfl := rp_int r2823
        obtain rfl := rp_int r2824
        refine ⟨_, rfl, (by show 4 ≤ sizeLine; decide), fun p2825 n2826 => ?_⟩
        generalize g2827 : upd H2800 p2825 _ = H2828
        obtain ⟨e2829, h2830⟩ := gen_new n2826 g2827
        have h2831 : H2828 p2825 = some (.tup [V.int (0), V.int (0), V.ref a2772, V.non]) := h2830
        have fr2832 := S2808.free n2826
        obtain ⟨G2834, eG2835, hg2836, S2833⟩ := S2808.grow n2826 e2829 h2831 fr2832
        obtain ⟨g2837, hw⟩ := cW_grd hw
        refine ⟨((encT4 PyData.int PyData.int (encT2 PyData.int PyData.int) encD) (v2799)), ((encT4 PyData.int PyData.int (encT2 PyData.int PyData.int) encN) ((0, 0, v2762, ()))), (rp_mk4 (S2833.sG _ _ (eG2835 _ _ h2810)) (.int _) (.int _) (rp_mk2 (S2833.sG _ _ (eG2835 _ _ h2820)) (.int _) (.int _)) (Rp.mono S2833.sG (Rp.mono eG2835 r2818))), (rp_mk4 (S2833.sG _ _ hg2836) (.int _) (.int _) (rp_mk2 (S2833.sG _ _ (eG2835 _ _ (eG2804 _ _ (eG2785 _ _ h2773)))) (.int _) (.int _)) .non), g2837, _, rfl, ?_⟩
        refine iteB (fun c2838 => ?_) (fun c2838 => ?_)
        · have hw := cW_pos c2838 hw
          refine iteT ?_
          have hw := cW_ok hw
          have hw := hK2642 (.rt _) hw
          have hw := hK2568 (.rt _) hw
          have hw := cW_ok hw
          exact eq_bl (k _) (hK0 _ hw).symm
        · have hw := cW_negB c2838 hw
          have h2839 := (e2829 _ _ (e2801 _ _ h2796))
          have h2840 := (e2829 _ _ (e2801 _ _ h2797))
          have w2841 : OwAll G2834 H2828 L2571 (vs2570) ((actual_2569.lines : (List (List PyData))).map (oL (oF encD))) := (OwAll.mono (Same.trans eG2804 eG2835) keeps_refl (OwAll.mono (Same.refl _) (keeps_same e2829) (OwAll.mono (Same.refl _) (keeps_same e2801) w2798)))
          refine ⟨_, rfl, _, _, _, rfl, h2839, rfl, _, rfl, _, rfl, rfl, rfl, G2834, _, _, _, _, L2571, actual_2569, _, _, _, rfl, S2833.sG, (hide_nil h2839), (hide_nil h2840), (OwAll.mono (Same.refl _) (keeps_hide (((fun b hb => nm_nil) : ∀ b ∈ L2571, b ∉ []))) w2841), cW_call hw (fun v2842 hw v2845 H2843 G2846 e2844 eG2847 sG2848 hn2849 r2850 => ?_) (fun e he => (hE e he).elim)⟩
          have S2851 := S2833.step e2844 eG2847 sG2848 hn2849
          obtain ⟨a2852, v2854, v2855, rfl, h2853, r2856, r2857⟩ := rp_tup2 r2850
          obtain rfl := rp_int r2856
          obtain rfl := rp_int r2857
          have h2858 := (e2844 _ _ (e2829 _ _ (e2801 _ _ (e2782 _ _ h2778))))
          have w2859 : OwAll G2846 H2843 L2574 (vs2573) ((grid_2572 : (List (List PyData))).map (oL (oF encD))) := (OwAll.mono (Same.trans (Same.trans (Same.trans eG2785 eG2804) eG2835) eG2847) keeps_refl (OwAll.mono (Same.refl _) (keeps_same e2844) (OwAll.mono (Same.refl _) (keeps_same e2829) (OwAll.mono (Same.refl _) (keeps_same e2801) (OwAll.mono (Same.refl _) (keeps_same e2782) w2779)))))
          refine ⟨_, rfl, _, rfl, _, rfl, rfl, rfl, G2846, _, _, L2574, grid_2572, _, _, _, rfl, S2851.sG, (hide_nil h2858), (OwAll.mono (Same.refl _) (keeps_hide (((fun b hb => nm_nil) : ∀ b ∈ L2574, b ∉ []))) w2859), cW_call hw (fun v2860 hw v2863 H2861 G2864 e2862 eG2865 sG2866 hn2867 r2868 => ?_) (fun e he => (hE e he).elim)⟩
          have S2869 := S2851.step e2862 eG2865 sG2866 hn2867
          obtain ⟨a2870, v2872, v2873, rfl, h2871, r2874, r2875⟩ := rp_tup2 r2868
          obtain rfl := rp_int r2874
          obtain rfl := rp_int r2875
          refine ⟨_, _, (rp_mk2 (S2869.sG _ _ (eG2865 _ _ h2853)) (.int _) (.int _)), (rp_mk2 (S2869.sG _ _ h2871) (.int _) (.int _)), _, rfl, ?_⟩
          refine iteN (fun c2876 => ?_) (fun c2876 => ?_)
          · have hw := cW_neg c2876 hw
            have hw := cW_ok hw
            have hw := hK2642 (.rt _) hw
            have hw := hK2568 (.rt _) hw
            have hw := cW_ok hw
            exact eq_bl (k _) (hK0 _ hw).symm
          · have hw := cW_pos c2876 hw
            have h2877 := (e2862 _ _ (e2844 _ _ h2839))
            have h2878 := (e2862 _ _ (e2844 _ _ h2840))
            have w2879 : OwAll G2864 H2861 L2571 (vs2570) ((actual_2569.lines : (List (List PyData))).map (oL (oF encD))) := (OwAll.mono (Same.trans eG2847 eG2865) keeps_refl (OwAll.mono (Same.refl _) (keeps_same e2862) (OwAll.mono (Same.refl _) (keeps_same e2844) w2841)))
            refine ⟨_, rfl, _, _, _, rfl, h2877, rfl, _, rfl, _, _, rfl, rfl, (divW_lit (by decide) (by decide)), _, rfl, _, _, rfl, rfl, (divW_lit (by decide) (by decide)), rfl, rfl, G2864, _, _, _, _, L2571, actual_2569, _, _, _, rfl, S2869.sG, (hide_nil h2877), (hide_nil h2878), (OwAll.mono (Same.refl _) (keeps_hide (((fun b hb => nm_nil) : ∀ b ∈ L2571, b ∉ []))) w2879), cW_call hw (fun v2880 hw v2883 H2881 G2884 e2882 eG2885 sG2886 hn2887 r2888 => ?_) (fun e he => (hE e he).elim)⟩
            have S2889 := S2869.step e2882 eG2885 sG2886 hn2887
            obtain ⟨a2890, v2892, v2893, v2894, v2895, rfl, h2891, r2896, r2897, r2898, r2899⟩ := rp_tup4 r2888
            obtain rfl := rp_int r2896
            obtain rfl := rp_int r2897
            obtain ⟨a2900, v2902, v2903, rfl, h2901, r2904, r2905⟩ := rp_tup2 r2898
            obtain rfl := rp_int r2904
            obtain rfl := rp_int r2905
            refine ⟨_, rfl, _, rfl, (by show 4 ≤ sizeLine; decide), fun p2906 n2907 => ?_⟩
            generalize g2908 : upd H2881 p2906 _ = H2909
            obtain ⟨e2910, h2911⟩ := gen_new n2907 g2908
            have h2912 : H2909 p2906 = some (.tup [V.int (2), V.int (0), V.ref a2772, V.ref a2790]) := h2911
            have fr2913 := S2889.free n2907
            obtain ⟨G2915, eG2916, hg2917, S2914⟩ := S2889.grow n2907 e2910 h2912 fr2913
            obtain ⟨g2918, hw⟩ := cW_grd hw
            refine ⟨((encT4 PyData.int PyData.int (encT2 PyData.int PyData.int) encD) (v2880)), ((encT4 PyData.int PyData.int (encT2 PyData.int PyData.int) (encT2 PyData.int PyData.int)) ((2, 0, v2762, v2780))), (rp_mk4 (S2914.sG _ _ (eG2916 _ _ h2891)) (.int _) (.int _) (rp_mk2 (S2914.sG _ _ (eG2916 _ _ h2901)) (.int _) (.int _)) (Rp.mono S2914.sG (Rp.mono eG2916 r2899))), (rp_mk4 (S2914.sG _ _ hg2917) (.int _) (.int _) (rp_mk2 (S2914.sG _ _ (eG2916 _ _ (eG2885 _ _ (eG2865 _ _ (eG2847 _ _ (eG2835 _ _ (eG2804 _ _ (eG2785 _ _ h2773)))))))) (.int _) (.int _)) (rp_mk2 (S2914.sG _ _ (eG2916 _ _ (eG2885 _ _ (eG2865 _ _ (eG2847 _ _ (eG2835 _ _ (eG2804 _ _ h2791))))))) (.int _) (.int _))), g2918, _, rfl, ?_⟩
            refine iteB (fun c2919 => ?_) (fun c2919 => ?_)
            · have hw := cW_pos c2919 hw
              have hw := cW_ok hw
              have hw := hK2642 (.rt _) hw
              have hw := hK2568 (.rt _) hw
              have hw := cW_ok hw
              exact eq_bl (k _) (hK0 _ hw).symm
            · have hw := cW_negB c2919 hw
              have h2920 := (e2910 _ _ (e2882 _ _ h2877))
              have h2921 := (e2910 _ _ (e2882 _ _ h2878))
              have w2922 : OwAll G2915 H2909 L2571 (vs2570) ((actual_2569.lines : (List (List PyData))).map (oL (oF encD))) := (OwAll.mono (Same.trans eG2885 eG2916) keeps_refl (OwAll.mono (Same.refl _) (keeps_same e2910) (OwAll.mono (Same.refl _) (keeps_same e2882) w2879)))
              have h2923 := (e2910 _ _ (e2882 _ _ (e2862 _ _ h2858)))
              have w2924 : OwAll G2915 H2909 L2574 (vs2573) ((grid_2572 : (List (List PyData))).map (oL (oF encD))) := (OwAll.mono (Same.trans (Same.trans eG2865 eG2885) eG2916) keeps_refl (OwAll.mono (Same.refl _) (keeps_same e2910) (OwAll.mono (Same.refl _) (keeps_same e2882) (OwAll.mono (Same.refl _) (keeps_same e2862) w2859))))
              refine ⟨_, rfl, _, rfl, _, rfl, _, rfl, _, rfl, rfl, rfl, G2915, _, _, _, _, L2571, actual_2569, _, _, L2574, grid_2572, _, _, _, rfl, S2914.sG, (S2914.gno (all_cons (.tail _ (.head _)) (all_cons (.tail _ (.tail _ (.head _))) (all_app ((fun b hb => (.tail _ (.tail _ (.tail _ (.tail _ (.tail _ (.tail _ (List.mem_append_left _ hb)))))))) : ∀ b ∈ L2571, b ∈ (p2406 :: (x2416 :: (l2428 :: (D2452 :: (p2656 :: (p2556 :: (L2571 ++ (L2574 ++ []))))))))) (all_cons (.tail _ (.tail _ (.tail _ (.head _)))) (all_app ((fun b hb => (.tail _ (.tail _ (.tail _ (.tail _ (.tail _ (.tail _ (List.mem_append_right _ (List.mem_append_left _ hb))))))))) : ∀ b ∈ L2574, b ∈ (p2406 :: (x2416 :: (l2428 :: (D2452 :: (p2656 :: (p2556 :: (L2571 ++ (L2574 ++ []))))))))) all_nil)))))), h2920, h2921, w2922, (ne2624 : ∀ b ∈ L2571, b ≠ x2416), (ne2625 : ∀ b ∈ L2571, b ≠ l2428), h2923, w2924, (ne2632 : ∀ b ∈ L2574, b ≠ D2452), (ne_of_none h2431 n2453), (ne2630 : ∀ b ∈ L2574, b ≠ x2416), (ne_of_none h2433 n2453), (ne2631 : ∀ b ∈ L2574, b ≠ l2428), (ne2626 : ∀ b ∈ L2571, b ≠ D2452), ((fun b hb => (ne2628 b hb)) : ∀ b ∈ L2571, b ∉ L2574), cW_call hw (fun v2925 hw H2929 G2932 vs2940 L2942 vs2941 L2943 x2930 eG2933 sG2934 hn2935 pm2936 h2937 h2938 h2939 hs2944 gl2946 hs2945 gl2947 ne2950 ne2951 ne2952 ne2953 ne2954 ne2955 ne2956 w2948 w2949 => ?_) (fun e he => (hE e he).elim)⟩
              have S2931 : Sep _ _ _ G2932 H2929 (L2942 ++ (L2943 ++ (p2406 :: (x2416 :: (l2428 :: (D2452 :: (p2656 :: (p2556 :: [])))))))) := Sep.mutgrow S2914 x2930 (all_cons (.tail _ (.head _)) (all_cons (.tail _ (.tail _ (.head _))) (all_app ((fun b hb => (.tail _ (.tail _ (.tail _ (.tail _ (.tail _ (.tail _ (List.mem_append_left _ hb)))))))) : ∀ b ∈ L2571, b ∈ (p2406 :: (x2416 :: (l2428 :: (D2452 :: (p2656 :: (p2556 :: (L2571 ++ (L2574 ++ []))))))))) (all_cons (.tail _ (.tail _ (.tail _ (.head _)))) (all_app ((fun b hb => (.tail _ (.tail _ (.tail _ (.tail _ (.tail _ (.tail _ (List.mem_append_right _ (List.mem_append_left _ hb))))))))) : ∀ b ∈ L2574, b ∈ (p2406 :: (x2416 :: (l2428 :: (D2452 :: (p2656 :: (p2556 :: (L2571 ++ (L2574 ++ []))))))))) all_nil))))) pm2936 eG2933 sG2934 hn2935 (all_app (fun b hb => (hs2944 b hb).elim (fun z => .inl ((((fun b hb => (.tail _ (.tail _ (.tail _ (.tail _ (.tail _ (.tail _ (List.mem_append_left _ hb)))))))) : ∀ b ∈ L2571, b ∈ (p2406 :: (x2416 :: (l2428 :: (D2452 :: (p2656 :: (p2556 :: (L2571 ++ (L2574 ++ []))))))))) : ∀ b ∈ L2571, b ∈ (p2406 :: (x2416 :: (l2428 :: (D2452 :: (p2656 :: (p2556 :: (L2571 ++ (L2574 ++ []))))))))) b z)) (fun z => .inr ⟨z, gl2946 b hb, OwAll.there w2948 b hb⟩)) (all_app (fun b hb => (hs2945 b hb).elim (fun z => .inl ((((fun b hb => (.tail _ (.tail _ (.tail _ (.tail _ (.tail _ (.tail _ (List.mem_append_right _ (List.mem_append_left _ hb))))))))) : ∀ b ∈ L2574, b ∈ (p2406 :: (x2416 :: (l2428 :: (D2452 :: (p2656 :: (p2556 :: (L2571 ++ (L2574 ++ []))))))))) : ∀ b ∈ L2574, b ∈ (p2406 :: (x2416 :: (l2428 :: (D2452 :: (p2656 :: (p2556 :: (L2571 ++ (L2574 ++ []))))))))) b z)) (fun z => .inr ⟨z, gl2947 b hb, OwAll.there w2949 b hb⟩)) (all_cons (.inl (.head _)) (all_cons (.inl (.tail _ (.head _))) (all_cons (.inl (.tail _ (.tail _ (.head _)))) (all_cons (.inl (.tail _ (.tail _ (.tail _ (.head _))))) (all_cons (.inl (.tail _ (.tail _ (.tail _ (.tail _ (.head _)))))) (all_cons (.inl (.tail _ (.tail _ (.tail _ (.tail _ (.tail _ (.head _))))))) all_nil))))))))
              refine ⟨_, rfl, ?_⟩
              refine iteBN (fun c2959 => ?_) (fun c2959 => ?_)
              · have hw := cW_negB c2959 hw
                have hw := cW_ok hw
                have hw := hK2642 (.rt _) hw
                have hw := hK2568 (.rt _) hw
                have hw := cW_ok hw
                exact eq_bl (k _) (hK0 _ hw).symm
              · have hw := cW_pos c2959 hw
                obtain ⟨g2960, hw⟩ := cW_grd hw
                have h2961 := (x2930 _ _ (e2910 _ _ (e2882 _ _ (e2862 _ _ (e2844 _ _ (e2829 _ _ (e2801 _ _ (e2782 _ _ (e2764 _ _ h2756)))))))) (nm_cons (ne_of_none (e2648 _ _ h2619) n2657).symm (nm_cons (ne_of_none (e2648 _ _ h2620) n2657).symm (nm_app (fun z => (there_ne (fun b_ hb_ => (S2652.ow b_ (((fun b hb => (.tail _ (.tail _ (.tail _ (.tail _ (.tail _ (.tail _ (List.mem_append_left _ hb)))))))) : ∀ b ∈ L2571, b ∈ (p2644 :: (p2406 :: (x2416 :: (l2428 :: (D2452 :: (p2556 :: (L2571 ++ (L2574 ++ []))))))))) b_ hb_)).2.1) n2657) _ z rfl) (nm_cons (ne_of_none (e2648 _ _ h2621) n2657).symm (nm_app (fun z => (there_ne (fun b_ hb_ => (S2652.ow b_ (((fun b hb => (.tail _ (.tail _ (.tail _ (.tail _ (.tail _ (.tail _ (List.mem_append_right _ (List.mem_append_left _ hb))))))))) : ∀ b ∈ L2574, b ∈ (p2644 :: (p2406 :: (x2416 :: (l2428 :: (D2452 :: (p2556 :: (L2571 ++ (L2574 ++ []))))))))) b_ hb_)).2.1) n2657) _ z rfl) nm_nil))))))
                refine ⟨_, rfl, _, _, _, _, rfl, rfl, (SqL.of h2961), (atI_map g2960), .inl ⟨_, rfl, ?_⟩⟩
                refine ⟨_, _, rfl, rfl, ?_⟩
                have hw := cW_bnd hw
                refine ⟨_, rfl, _, rfl, (by show 2 ≤ sizeLine; decide), fun p2963 n2964 => ?_⟩
                generalize g2965 : upd H2929 p2963 _ = H2966
                obtain ⟨e2967, h2968⟩ := gen_new n2964 g2965
                have h2969 : H2966 p2963 = some (.tup [V.int ((-((itD (v2653) (2)) + 2))), V.int (0)]) := h2968
                have fr2970 := S2931.free n2964
                obtain ⟨G2972, eG2973, hg2974, S2971⟩ := S2931.grow n2964 e2967 h2969 fr2970
                refine ⟨_, rfl, _, rfl, _, rfl, (by show 2 ≤ sizeLine; decide), fun p2975 n2976 => ?_⟩
                generalize g2977 : upd H2966 p2975 _ = H2978
                obtain ⟨e2979, h2980⟩ := gen_new n2976 g2977
                have h2981 : H2978 p2975 = some (.tup [V.int (((itD (v2653) (0)) % (2 * (1 + (itD (v2403) (0)))))), V.int ((-((itD (v2653) (2)) + 2)))]) := h2980
                have fr2982 := S2971.free n2976
                obtain ⟨G2984, eG2985, hg2986, S2983⟩ := S2971.grow n2976 e2979 h2981 fr2982
                refine ⟨_, rfl, _, _, rfl, rfl, (.inl ⟨by decide, by decide⟩), _, _, rfl, rfl, _, rfl, _, _, rfl, rfl, (by show 2 ≤ sizeLine; decide), fun p2987 n2988 => ?_⟩
                generalize g2989 : upd H2978 p2987 _ = H2990
                obtain ⟨e2991, h2992⟩ := gen_new n2988 g2989
                have h2993 : H2990 p2987 = some (.tup [V.int ((((2 * (1 + (itD (v2403) (0)))) - 1) + ((itD (v2653) (2)) + 2))), V.int (0)]) := h2992
                have fr2994 := S2983.free n2988
                obtain ⟨G2996, eG2997, hg2998, S2995⟩ := S2983.grow n2988 e2991 h2993 fr2994
                refine ⟨_, rfl, _, rfl, _, _, rfl, rfl, (.inl ⟨by decide, by decide⟩), _, _, rfl, rfl, _, rfl, _, _, rfl, rfl, (by show 2 ≤ sizeLine; decide), fun p2999 n3000 => ?_⟩
                generalize g3001 : upd H2990 p2999 _ = H3002
                obtain ⟨e3003, h3004⟩ := gen_new n3000 g3001
                have h3005 : H3002 p2999 = some (.tup [V.int (((itD (v2653) (0)) % (2 * (1 + (itD (v2403) (0)))))), V.int ((((2 * (1 + (itD (v2403) (1)))) - 1) + ((itD (v2653) (2)) + 2)))]) := h3004
                have fr3006 := S2995.free n3000
                obtain ⟨G3008, eG3009, hg3010, S3007⟩ := S2995.grow n3000 e3003 h3005 fr3006
                refine ⟨_, rfl, _, rfl, _, rfl, _, rfl, (by show 2 ≤ sizeLine; decide), fun p3011 n3012 => ?_⟩
                generalize g3013 : upd H3002 p3011 _ = H3014
                obtain ⟨e3015, h3016⟩ := gen_new n3012 g3013
                have h3017 : H3014 p3011 = some (.tup [V.int ((-((itD (v2653) (2)) + 2))), V.int ((-((itD (v2653) (2)) + 2)))]) := h3016
                have fr3018 := S3007.free n3012
                obtain ⟨G3020, eG3021, hg3022, S3019⟩ := S3007.grow n3012 e3015 h3017 fr3018
                refine ⟨_, rfl, _, _, rfl, rfl, (.inl ⟨by decide, by decide⟩), _, rfl, _, _, rfl, rfl, _, rfl, (by show 2 ≤ sizeLine; decide), fun p3023 n3024 => ?_⟩
                generalize g3025 : upd H3014 p3023 _ = H3026
                obtain ⟨e3027, h3028⟩ := gen_new n3024 g3025
                have h3029 : H3026 p3023 = some (.tup [V.int (((2 * (1 + (itD (v2403) (0)))) + ((itD (v2653) (2)) + 2))), V.int (((itD (v2653) (1)) % (2 * (1 + (itD (v2403) (1))))))]) := h3028
                have fr3030 := S3019.free n3024
                obtain ⟨G3032, eG3033, hg3034, S3031⟩ := S3019.grow n3024 e3027 h3029 fr3030
                refine ⟨(by show 6 ≤ sizeLine; decide), fun p3035 n3036 => ?_⟩
                generalize g3037 : upd H3026 p3035 _ = H3038
                obtain ⟨e3039, h3040⟩ := gen_new n3036 g3037
                have h3041 : H3038 p3035 = some (.lst ([V.ref p2963, V.ref p2975, V.ref p2987, V.ref p2999, V.ref p3011, V.ref p3023])) := h3040
                have fr3042 := S3031.free n3036
                have S3043 := S3031.new n3036 e3039 h3041 fr3042
                have d3044 : RpAll G3032 ([V.ref p2963, V.ref p2975, V.ref p2987, V.ref p2999, V.ref p3011, V.ref p3023]) (([((-((itD (v2653) (2)) + 2)), 0), (((itD (v2653) (0)) % (2 * (1 + (itD (v2403) (0))))), (-((itD (v2653) (2)) + 2))), ((((2 * (1 + (itD (v2403) (0)))) - 1) + ((itD (v2653) (2)) + 2)), 0), (((itD (v2653) (0)) % (2 * (1 + (itD (v2403) (0))))), (((2 * (1 + (itD (v2403) (1)))) - 1) + ((itD (v2653) (2)) + 2))), ((-((itD (v2653) (2)) + 2)), (-((itD (v2653) (2)) + 2))), (((2 * (1 + (itD (v2403) (0)))) + ((itD (v2653) (2)) + 2)), ((itD (v2653) (1)) % (2 * (1 + (itD (v2403) (1))))))] : (List (Int × Int))).map (encT2 PyData.int PyData.int)) := (RpAll.cons (rp_mk2 (eG3033 _ _ (eG3021 _ _ (eG3009 _ _ (eG2997 _ _ (eG2985 _ _ hg2974))))) (.int _) (.int _)) (RpAll.cons (rp_mk2 (eG3033 _ _ (eG3021 _ _ (eG3009 _ _ (eG2997 _ _ hg2986)))) (.int _) (.int _)) (RpAll.cons (rp_mk2 (eG3033 _ _ (eG3021 _ _ (eG3009 _ _ hg2998))) (.int _) (.int _)) (RpAll.cons (rp_mk2 (eG3033 _ _ (eG3021 _ _ hg3010)) (.int _) (.int _)) (RpAll.cons (rp_mk2 (eG3033 _ _ hg3022) (.int _) (.int _)) (RpAll.cons (rp_mk2 hg3034 (.int _) (.int _)) RpAll.nil))))))
                obtain ⟨K3050, hK3051, hw⟩ := cW_push hw
                refine ⟨_, rfl, ⟨_, (SqL.of h3041)⟩, for_list (K := K) (a := p3035) (xs := [V.ref p2963, V.ref p2975, V.ref p2987, V.ref p2999, V.ref p3011, V.ref p3023]) (fun i σ H' => ∃ (u3052 : Option V) (G' : Hp), σ = [some (V.ref a_script), some (V.ref p2406), some (V.int ((1 + (itD (v2403) (0))))), some (V.int ((1 + (itD (v2403) (1))))), some (V.ref x2416), some (V.ref D2452), some (V.int (x2638)), some (V.ref p2656), some (V.int (((itD (v2653) (0)) % (2 * (1 + (itD (v2403) (0))))))), some (V.int (((itD (v2653) (1)) % (2 * (1 + (itD (v2403) (1))))))), u2682, u2683, some (V.ref a2772), some (V.ref a2790), some (V.int (((itD (v2653) (2)) + 2))), u3052, u2585, u2586, u2587] ∧ Same G3032 G' ∧ Sep [] H H G' H' (p2406 :: (x2416 :: (l2428 :: (D2452 :: (p2656 :: (p2556 :: (p3035 :: (L2942 ++ (L2943 ++ []))))))))) ∧ H' p2406 = some (.lst ((v2403 : (List Int)).map V.int)) ∧ H' x2416 = some (.ins AD.c_MotionGrid dx2417 [("_width", V.int (v2925.2.1.width)), ("_height", V.int (v2925.2.1.height)), ("_lines", V.ref l2428)]) ∧ H' l2428 = some (.lst (vs2940)) ∧ H' D2452 = some (.lst (vs2941)) ∧ H' p2656 = some (.lst ((v2653 : (List Int)).map V.int)) ∧ H' p2556 = some (.lst ((([0]) ++ (cutL (script') (some (1)) none) : (List Int)).map V.int)) ∧ H' p3035 = some (.lst ([V.ref p2963, V.ref p2975, V.ref p2987, V.ref p2999, V.ref p3011, V.ref p3023])) ∧ OwAll G' H' L2942 (vs2940) ((v2925.2.1.lines : (List (List PyData))).map (oL (oF encD))) ∧ OwAll G' H' L2943 (vs2941) ((v2925.2.2 : (List (List PyData))).map (oL (oF encD))) ∧ cW (forR (List.drop i ([((-((itD (v2653) (2)) + 2)), 0), (((itD (v2653) (0)) % (2 * (1 + (itD (v2403) (0))))), (-((itD (v2653) (2)) + 2))), ((((2 * (1 + (itD (v2403) (0)))) - 1) + ((itD (v2653) (2)) + 2)), 0), (((itD (v2653) (0)) % (2 * (1 + (itD (v2403) (0))))), (((2 * (1 + (itD (v2403) (1)))) - 1) + ((itD (v2653) (2)) + 2))), ((-((itD (v2653) (2)) + 2)), (-((itD (v2653) (2)) + 2))), (((2 * (1 + (itD (v2403) (0)))) + ((itD (v2653) (2)) + 2)), ((itD (v2653) (1)) % (2 * (1 + (itD (v2403) (1))))))])) () (fun s x => F_law_b4 (v2925.2.1)  x)) K3050 EE) ?_ ?_ ?_ ?_⟩
                · have h3053 := (e3039 _ _ (e3027 _ _ (e3015 _ _ (e3003 _ _ (e2991 _ _ (e2979 _ _ (e2967 _ _ (x2930 _ _ (e2910 _ _ (e2882 _ _ (e2862 _ _ (e2844 _ _ (e2829 _ _ (e2801 _ _ (e2782 _ _ (e2764 _ _ h2752)))))))) (nm_cons (ne_of_none h2409 n2418) (nm_cons (ne_of_none (e2423 _ _ h2409) n2434) (nm_app (fun z => ne2623 _ z rfl) (nm_cons (ne_of_none ((SameXs.of x2430) _ _ (e2423 _ _ h2409) (ni1 (ne_of_none h2409 n2418))) n2453) (nm_app (fun z => ne2629 _ z rfl) nm_nil)))))))))))))
                  have h3054 := (e3039 _ _ (e3027 _ _ (e3015 _ _ (e3003 _ _ (e2991 _ _ (e2979 _ _ (e2967 _ _ h2937)))))))
                  have h3055 := (e3039 _ _ (e3027 _ _ (e3015 _ _ (e3003 _ _ (e2991 _ _ (e2979 _ _ (e2967 _ _ h2938)))))))
                  have h3056 := (e3039 _ _ (e3027 _ _ (e3015 _ _ (e3003 _ _ (e2991 _ _ (e2979 _ _ (e2967 _ _ h2939)))))))
                  have h3057 := (e3039 _ _ (e3027 _ _ (e3015 _ _ (e3003 _ _ (e2991 _ _ (e2979 _ _ (e2967 _ _ h2961)))))))
                  have h3058 := (e3039 _ _ (e3027 _ _ (e3015 _ _ (e3003 _ _ (e2991 _ _ (e2979 _ _ (e2967 _ _ (x2930 _ _ (e2910 _ _ (e2882 _ _ (e2862 _ _ (e2844 _ _ (e2829 _ _ (e2801 _ _ (e2782 _ _ (e2764 _ _ h2757)))))))) (nm_cons (ne_of_none (e2549 _ _ (e2540 _ _ h2532)) n2557).symm (nm_cons (ne_of_none (e2549 _ _ (e2540 _ _ h2533)) n2557).symm (nm_app (fun z => ne2627 _ z rfl) (nm_cons (ne_of_none (e2549 _ _ (e2540 _ _ h2521)) n2557).symm (nm_app (fun z => ne2633 _ z rfl) nm_nil)))))))))))))
                  have w3059 : OwAll G3032 H3038 L2942 (vs2940) ((v2925.2.1.lines : (List (List PyData))).map (oL (oF encD))) := (OwAll.mono (Same.trans (Same.trans (Same.trans (Same.trans (Same.trans eG2973 eG2985) eG2997) eG3009) eG3021) eG3033) keeps_refl (OwAll.mono (Same.refl _) (keeps_same e3039) (OwAll.mono (Same.refl _) (keeps_same e3027) (OwAll.mono (Same.refl _) (keeps_same e3015) (OwAll.mono (Same.refl _) (keeps_same e3003) (OwAll.mono (Same.refl _) (keeps_same e2991) (OwAll.mono (Same.refl _) (keeps_same e2979) (OwAll.mono (Same.refl _) (keeps_same e2967) w2948))))))))
                  have w3060 : OwAll G3032 H3038 L2943 (vs2941) ((v2925.2.2 : (List (List PyData))).map (oL (oF encD))) := (OwAll.mono (Same.trans (Same.trans (Same.trans (Same.trans (Same.trans eG2973 eG2985) eG2997) eG3009) eG3021) eG3033) keeps_refl (OwAll.mono (Same.refl _) (keeps_same e3039) (OwAll.mono (Same.refl _) (keeps_same e3027) (OwAll.mono (Same.refl _) (keeps_same e3015) (OwAll.mono (Same.refl _) (keeps_same e3003) (OwAll.mono (Same.refl _) (keeps_same e2991) (OwAll.mono (Same.refl _) (keeps_same e2979) (OwAll.mono (Same.refl _) (keeps_same e2967) w2949))))))))
                  exact ⟨_, _, rfl, (Same.refl _), (S3043.sub (all_cons (.tail _ (List.mem_append_right _ (List.mem_append_right _ (.head _)))) (all_cons (.tail _ (List.mem_append_right _ (List.mem_append_right _ (.tail _ (.head _))))) (all_cons (.tail _ (List.mem_append_right _ (List.mem_append_right _ (.tail _ (.tail _ (.head _)))))) (all_cons (.tail _ (List.mem_append_right _ (List.mem_append_right _ (.tail _ (.tail _ (.tail _ (.head _))))))) (all_cons (.tail _ (List.mem_append_right _ (List.mem_append_right _ (.tail _ (.tail _ (.tail _ (.tail _ (.head _)))))))) (all_cons (.tail _ (List.mem_append_right _ (List.mem_append_right _ (.tail _ (.tail _ (.tail _ (.tail _ (.tail _ (.head _))))))))) (all_cons (.head _) (all_app ((fun b hb => (.tail _ (List.mem_append_left _ hb))) : ∀ b ∈ L2942, b ∈ (p3035 :: (L2942 ++ (L2943 ++ (p2406 :: (x2416 :: (l2428 :: (D2452 :: (p2656 :: (p2556 :: [])))))))))) (all_app ((fun b hb => (.tail _ (List.mem_append_right _ (List.mem_append_left _ hb)))) : ∀ b ∈ L2943, b ∈ (p3035 :: (L2942 ++ (L2943 ++ (p2406 :: (x2416 :: (l2428 :: (D2452 :: (p2656 :: (p2556 :: [])))))))))) all_nil)))))))))), h3053, h3054, h3055, h3056, h3057, h3058, h3041, w3059, w3060, hw⟩
                · intro i σ H3061 _ hw
                  obtain ⟨u3052, G3072, rfl, eG3073, S3062, h3063, h3064, h3065, h3066, h3067, h3068, h3069, w3070, w3071, hw⟩ := hw
                  exact (SqL.of h3069)
                · intro i x σ H3074 hj hw
                  obtain ⟨u3052, G3085, rfl, eG3086, S3075, h3076, h3077, h3078, h3079, h3080, h3081, h3082, w3083, w3084, hw⟩ := hw
                  obtain ⟨x3087, hx, r3088⟩ := RpAll.get (RpAll.mono eG3086 d3044) hj
                  obtain ⟨a3089, v3091, v3092, rfl, h3090, r3093, r3094⟩ := rp_tup2 r3088
                  obtain rfl := rp_int r3093
                  obtain rfl := rp_int r3094
                  have hw := cW_forR hx hw
                  have hw : cW (F_law_b4 (v2925.2.1)  (x3087)) _ EE := hw
                  unfold F_law_b4 at hw
                  obtain ⟨K3095, hK3096, hw⟩ := cW_name hw
                  refine ⟨_, rfl, _, _, _, rfl, h3077, rfl, _, rfl, _, _, _, _, rfl, rfl, (SqT.of (S3075.sG _ _ h3090)), rfl, _, rfl, _, _, _, _, rfl, rfl, (SqT.of (S3075.sG _ _ h3090)), rfl, rfl, rfl, G3085, _, _, _, _, L2942, v2925.2.1, _, _, rfl, S3075.sG, (hide_nil h3077), (hide_nil h3078), (OwAll.mono (Same.refl _) (keeps_hide (((fun b hb => nm_nil) : ∀ b ∈ L2942, b ∉ []))) w3083), cW_call hw (fun v3098 hw v3101 H3099 G3102 e3100 eG3103 sG3104 hn3105 r3106 => ?_) (fun e he => (hE e he).elim)⟩
                  have S3107 := S3075.step e3100 eG3103 sG3104 hn3105
                  refine ⟨v3098, rfl, (Rp.mono S3107.sG r3106), _, rfl, ?_⟩
                  refine iteB (fun c3108 => ?_) (fun c3108 => ?_)
                  · have hw := cW_pos c3108 hw
                    have hw := cW_ok hw
                    have hw := hK3096 (.rt _) hw
                    have hw := hK3051 (.rt _) hw
                    have hw := cW_ok hw
                    have hw := hK2642 (.rt _) hw
                    have hw := hK2568 (.rt _) hw
                    have hw := cW_ok hw
                    exact eq_bl (k _) (hK0 _ hw).symm
                  · have hw := cW_negB c3108 hw
                    have hw := cW_ok hw
                    have hw := hK3096 _ hw
                    have h3109 := (e3100 _ _ h3076)
                    have h3110 := (e3100 _ _ h3077)
                    have h3111 := (e3100 _ _ h3078)
                    have h3112 := (e3100 _ _ h3079)
                    have h3113 := (e3100 _ _ h3080)
                    have h3114 := (e3100 _ _ h3081)
                    have h3115 := (e3100 _ _ h3082)
                    have w3116 : OwAll G3102 H3099 L2942 (vs2940) ((v2925.2.1.lines : (List (List PyData))).map (oL (oF encD))) := (OwAll.mono eG3103 keeps_refl (OwAll.mono (Same.refl _) (keeps_same e3100) w3083))
                    have w3117 : OwAll G3102 H3099 L2943 (vs2941) ((v2925.2.2 : (List (List PyData))).map (oL (oF encD))) := (OwAll.mono eG3103 keeps_refl (OwAll.mono (Same.refl _) (keeps_same e3100) w3084))
                    exact ⟨_, _, rfl, (Same.trans eG3086 eG3103), S3107, h3109, h3110, h3111, h3112, h3113, h3114, h3115, w3116, w3117, hw⟩
                · intro σ H3118 hw
                  obtain ⟨u3052, G3129, rfl, eG3130, S3119, h3120, h3121, h3122, h3123, h3124, h3125, h3126, w3127, w3128, hw⟩ := hw
                  have hw := cW_aftgo (hK3051 _ (cW_forR0 (by rw [(RpAll.mono eG3130 d3044).len, List.length_map]) hw))
                  have hw : cW (F_law_r4 ((1 + (itD (v2403) (0)))) ((1 + (itD (v2403) (1)))) (v2925.2.1) (v2925.2.2) ) _ EE := hw
                  unfold F_law_r4 at hw
                  obtain ⟨g3131, hw⟩ := cW_grd hw
                  obtain ⟨K3138, hK3139, hw⟩ := cW_push hw
                  refine ⟨_, rfl, _, rfl, _, _, rfl, rfl, (.inl ⟨by decide, by decide⟩), _, _, rfl, rfl, _, _, rfl, g3131, for_range (lo := (-1)) (n := Int.toNat (((2 * (1 + (itD (v2403) (1)))) + 1) - (-1))) (fun i σ H' => ∃ (u3140 : Option V) (u3141 : Option V) (u3142 : Option V) (G' : Hp), σ = [some (V.ref a_script), some (V.ref p2406), some (V.int ((1 + (itD (v2403) (0))))), some (V.int ((1 + (itD (v2403) (1))))), some (V.ref x2416), some (V.ref D2452), some (V.int (x2638)), some (V.ref p2656), some (V.int (((itD (v2653) (0)) % (2 * (1 + (itD (v2403) (0))))))), some (V.int (((itD (v2653) (1)) % (2 * (1 + (itD (v2403) (1))))))), u2682, u2683, some (V.ref a2772), some (V.ref a2790), some (V.int (((itD (v2653) (2)) + 2))), u3052, u3140, u3141, u3142] ∧ Same G3129 G' ∧ Sep [] H H G' H' (p2406 :: (x2416 :: (l2428 :: (D2452 :: (p2656 :: (p2556 :: (L2942 ++ (L2943 ++ [])))))))) ∧ H' p2406 = some (.lst ((v2403 : (List Int)).map V.int)) ∧ H' x2416 = some (.ins AD.c_MotionGrid dx2417 [("_width", V.int (v2925.2.1.width)), ("_height", V.int (v2925.2.1.height)), ("_lines", V.ref l2428)]) ∧ H' l2428 = some (.lst (vs2940)) ∧ H' D2452 = some (.lst (vs2941)) ∧ H' p2656 = some (.lst ((v2653 : (List Int)).map V.int)) ∧ H' p2556 = some (.lst ((([0]) ++ (cutL (script') (some (1)) none) : (List Int)).map V.int)) ∧ OwAll G' H' L2942 (vs2940) ((v2925.2.1.lines : (List (List PyData))).map (oL (oF encD))) ∧ OwAll G' H' L2943 (vs2941) ((v2925.2.2 : (List (List PyData))).map (oL (oF encD))) ∧ cW (forR (List.drop i (rng ((-1)) (Int.toNat (((2 * (1 + (itD (v2403) (1)))) + 1) - (-1))))) () (fun s x => F_law_b5 ((1 + (itD (v2403) (0)))) ((1 + (itD (v2403) (1)))) (v2925.2.1) (v2925.2.2)  x)) K3138 EE) ?_ ?_ ?_⟩
                  · exact ⟨_, _, _, _, rfl, (Same.refl _), (S3119.sub (all_cons (.head _) (all_cons (.tail _ (.head _)) (all_cons (.tail _ (.tail _ (.head _))) (all_cons (.tail _ (.tail _ (.tail _ (.head _)))) (all_cons (.tail _ (.tail _ (.tail _ (.tail _ (.head _))))) (all_cons (.tail _ (.tail _ (.tail _ (.tail _ (.tail _ (.head _)))))) (all_app ((fun b hb => (.tail _ (.tail _ (.tail _ (.tail _ (.tail _ (.tail _ (.tail _ (List.mem_append_left _ hb))))))))) : ∀ b ∈ L2942, b ∈ (p2406 :: (x2416 :: (l2428 :: (D2452 :: (p2656 :: (p2556 :: (p3035 :: (L2942 ++ (L2943 ++ [])))))))))) (all_app ((fun b hb => (.tail _ (.tail _ (.tail _ (.tail _ (.tail _ (.tail _ (.tail _ (List.mem_append_right _ (List.mem_append_left _ hb)))))))))) : ∀ b ∈ L2943, b ∈ (p2406 :: (x2416 :: (l2428 :: (D2452 :: (p2656 :: (p2556 :: (p3035 :: (L2942 ++ (L2943 ++ [])))))))))) all_nil))))))))), h3120, h3121, h3122, h3123, h3124, h3125, w3127, w3128, hw⟩
                  · intro i σ H3143 hi hw
                    obtain ⟨u3140, u3141, u3142, G3153, rfl, eG3154, S3144, h3145, h3146, h3147, h3148, h3149, h3150, w3151, w3152, hw⟩ := hw
                    have hw := cW_forR (rng_get hi) hw
                    generalize ((-1) + (i : Int)) = x3155 at hw ⊢
                    have hw : cW (F_law_b5 ((1 + (itD (v2403) (0)))) ((1 + (itD (v2403) (1)))) (v2925.2.1) (v2925.2.2)  (x3155)) _ EE := hw
                    unfold F_law_b5 at hw
                    obtain ⟨K3156, hK3157, hw⟩ := cW_name hw
                    obtain ⟨g3159, hw⟩ := cW_grd hw
                    obtain ⟨K3165, hK3166, hw⟩ := cW_push hw
                    refine ⟨_, rfl, _, rfl, _, _, rfl, rfl, (.inl ⟨by decide, by decide⟩), _, _, rfl, rfl, _, _, rfl, g3159, for_range (lo := (-1)) (n := Int.toNat (((2 * (1 + (itD (v2403) (0)))) + 1) - (-1))) (fun i σ H' => ∃ (u3167 : Option V) (u3168 : Option V) (G' : Hp), σ = [some (V.ref a_script), some (V.ref p2406), some (V.int ((1 + (itD (v2403) (0))))), some (V.int ((1 + (itD (v2403) (1))))), some (V.ref x2416), some (V.ref D2452), some (V.int (x2638)), some (V.ref p2656), some (V.int (((itD (v2653) (0)) % (2 * (1 + (itD (v2403) (0))))))), some (V.int (((itD (v2653) (1)) % (2 * (1 + (itD (v2403) (1))))))), u2682, u2683, some (V.ref a2772), some (V.ref a2790), some (V.int (((itD (v2653) (2)) + 2))), u3052, some (V.int (x3155)), u3167, u3168] ∧ Same G3153 G' ∧ Sep [] H H G' H' (p2406 :: (x2416 :: (l2428 :: (D2452 :: (p2656 :: (p2556 :: (L2942 ++ (L2943 ++ [])))))))) ∧ H' p2406 = some (.lst ((v2403 : (List Int)).map V.int)) ∧ H' x2416 = some (.ins AD.c_MotionGrid dx2417 [("_width", V.int (v2925.2.1.width)), ("_height", V.int (v2925.2.1.height)), ("_lines", V.ref l2428)]) ∧ H' l2428 = some (.lst (vs2940)) ∧ H' D2452 = some (.lst (vs2941)) ∧ H' p2656 = some (.lst ((v2653 : (List Int)).map V.int)) ∧ H' p2556 = some (.lst ((([0]) ++ (cutL (script') (some (1)) none) : (List Int)).map V.int)) ∧ OwAll G' H' L2942 (vs2940) ((v2925.2.1.lines : (List (List PyData))).map (oL (oF encD))) ∧ OwAll G' H' L2943 (vs2941) ((v2925.2.2 : (List (List PyData))).map (oL (oF encD))) ∧ cW (forR (List.drop i (rng ((-1)) (Int.toNat (((2 * (1 + (itD (v2403) (0)))) + 1) - (-1))))) () (fun s x => F_law_b6 ((1 + (itD (v2403) (0)))) ((1 + (itD (v2403) (1)))) (v2925.2.1) (v2925.2.2) (x3155)  x)) K3165 EE) ?_ ?_ ?_⟩
                    · exact ⟨_, _, _, rfl, (Same.refl _), S3144, h3145, h3146, h3147, h3148, h3149, h3150, w3151, w3152, hw⟩
                    · intro i σ H3169 hi hw
                      obtain ⟨u3167, u3168, G3179, rfl, eG3180, S3170, h3171, h3172, h3173, h3174, h3175, h3176, w3177, w3178, hw⟩ := hw
                      have hw := cW_forR (rng_get hi) hw
                      generalize ((-1) + (i : Int)) = x3181 at hw ⊢
                      have hw : cW (F_law_b6 ((1 + (itD (v2403) (0)))) ((1 + (itD (v2403) (1)))) (v2925.2.1) (v2925.2.2) (x3155)  (x3181)) _ EE := hw
                      unfold F_law_b6 at hw
                      obtain ⟨K3182, hK3183, hw⟩ := cW_name hw
                      have r3185 : Rp G3179 (V.non) (encD (encN (()))) := .non
                      refine ⟨fun σ H' => ∃ (due_3190 : PyData) (u3191 : V) (G' : Hp), σ = [some (V.ref a_script), some (V.ref p2406), some (V.int ((1 + (itD (v2403) (0))))), some (V.int ((1 + (itD (v2403) (1))))), some (V.ref x2416), some (V.ref D2452), some (V.int (x2638)), some (V.ref p2656), some (V.int (((itD (v2653) (0)) % (2 * (1 + (itD (v2403) (0))))))), some (V.int (((itD (v2653) (1)) % (2 * (1 + (itD (v2403) (1))))))), u2682, u2683, some (V.ref a2772), some (V.ref a2790), some (V.int (((itD (v2653) (2)) + 2))), u3052, some (V.int (x3155)), some (V.int (x3181)), some u3191] ∧ Same G3179 G' ∧ Sep [] H H G' H' (p2406 :: (x2416 :: (l2428 :: (D2452 :: (p2656 :: (p2556 :: (L2942 ++ (L2943 ++ [])))))))) ∧ H' p2406 = some (.lst ((v2403 : (List Int)).map V.int)) ∧ H' x2416 = some (.ins AD.c_MotionGrid dx2417 [("_width", V.int (v2925.2.1.width)), ("_height", V.int (v2925.2.1.height)), ("_lines", V.ref l2428)]) ∧ H' l2428 = some (.lst (vs2940)) ∧ H' D2452 = some (.lst (vs2941)) ∧ H' p2656 = some (.lst ((v2653 : (List Int)).map V.int)) ∧ H' p2556 = some (.lst ((([0]) ++ (cutL (script') (some (1)) none) : (List Int)).map V.int)) ∧ Rp G' u3191 (encD due_3190) ∧ OwAll G' H' L2942 (vs2940) ((v2925.2.1.lines : (List (List PyData))).map (oL (oF encD))) ∧ OwAll G' H' L2943 (vs2941) ((v2925.2.2 : (List (List PyData))).map (oL (oF encD))) ∧ cW (F_law_k7 (v2925.2.1) (x3155) (x3181) due_3190) K3182 EE, ?_, ?_⟩
                      · obtain ⟨K3192, hK3193, hw⟩ := cW_push hw
                        refine ⟨_, rfl, _, _, rfl, rfl, _, rfl, ?_⟩
                        refine iteD (fun c3194 => ?_) (fun c3194 => ?_)
                        · have hw := cW_pos c3194 hw
                          refine ⟨_, rfl, _, _, rfl, rfl, (.inl ⟨by decide, by decide⟩), _, _, rfl, rfl, _, rfl, ?_⟩
                          refine iteD (fun c3195 => ?_) (fun c3195 => ?_)
                          · have hw := cW_pos c3195 hw
                            refine ⟨_, rfl, _, _, rfl, rfl, _, rfl, ?_⟩
                            refine iteD (fun c3196 => ?_) (fun c3196 => ?_)
                            · have hw := cW_pos c3196 hw
                              refine ⟨_, rfl, _, _, rfl, rfl, (.inl ⟨by decide, by decide⟩), _, _, rfl, rfl, _, rfl, ?_⟩
                              refine iteD (fun c3197 => ?_) (fun c3197 => ?_)
                              · have hw := cW_pos c3197 hw
                                obtain ⟨g3198, hw⟩ := cW_grd hw
                                obtain ⟨v3199, L3200, a3201, w3202, hs3203, up3204, gr3205⟩ := OwAll.partM (k := x3155) w3178 g3198
                                obtain ⟨b3206, vs3207, L3208, rfl, rfl, h3209, w3210, nb3211⟩ := Ow.toList w3202
                                obtain ⟨g3212, hw⟩ := cW_grd hw
                                obtain ⟨v3213, L3214, a3215, w3216, hs3217, up3218, gr3219⟩ := OwAll.partM (k := x3181) w3210 g3212
                                obtain ⟨z3221, r3220⟩ := Ow.toFrz w3216
                                refine ⟨_, rfl, _, rfl, _, _, _, _, rfl, rfl, (SqL.of h3174), a3201, _, rfl, _, _, _, _, rfl, rfl, (SqL.of h3209), a3215, ?_⟩
                                have hw := cW_ok hw
                                have hw := hK3193 _ hw
                                exact ⟨((itD ((itD (v2925.2.2) (x3155))) (x3181))), _, _, rfl, (Same.refl _), S3170, h3171, h3172, h3173, h3174, h3175, h3176, r3220, w3177, w3178, hw⟩
                              · have hw := cW_neg c3197 hw
                                have hw := cW_ok hw
                                have hw := hK3193 _ hw
                                exact ⟨((encN (()))), _, _, rfl, (Same.refl _), S3170, h3171, h3172, h3173, h3174, h3175, h3176, r3185, w3177, w3178, hw⟩
                            · have hw := cW_neg c3196 hw
                              refine ⟨_, rfl, ?_⟩
                              refine iteF ?_
                              have hw := cW_ok hw
                              have hw := hK3193 _ hw
                              exact ⟨((encN (()))), _, _, rfl, (Same.refl _), S3170, h3171, h3172, h3173, h3174, h3175, h3176, r3185, w3177, w3178, hw⟩
                          · have hw := cW_neg c3195 hw
                            refine iteF ?_
                            have hw := cW_ok hw
                            have hw := hK3193 _ hw
                            exact ⟨((encN (()))), _, _, rfl, (Same.refl _), S3170, h3171, h3172, h3173, h3174, h3175, h3176, r3185, w3177, w3178, hw⟩
                        · have hw := cW_neg c3194 hw
                          refine ⟨_, rfl, ?_⟩
                          refine iteF ?_
                          refine iteF ?_
                          have hw := cW_ok hw
                          have hw := hK3193 _ hw
                          exact ⟨((encN (()))), _, _, rfl, (Same.refl _), S3170, h3171, h3172, h3173, h3174, h3175, h3176, r3185, w3177, w3178, hw⟩
                      · intro σ H3222 hw
                        obtain ⟨due_3190, u3191, G3233, rfl, eG3234, S3223, h3224, h3225, h3226, h3227, h3228, h3229, r3230, w3231, w3232, hw⟩ := hw
                        unfold F_law_k7 at hw
                        refine ⟨_, rfl, _, _, _, rfl, h3225, rfl, _, rfl, _, rfl, rfl, rfl, G3233, _, _, _, _, L2942, v2925.2.1, _, _, rfl, S3223.sG, (hide_nil h3225), (hide_nil h3226), (OwAll.mono (Same.refl _) (keeps_hide (((fun b hb => nm_nil) : ∀ b ∈ L2942, b ∉ []))) w3231), cW_call hw (fun v3235 hw v3238 H3236 G3239 e3237 eG3240 sG3241 hn3242 r3243 => ?_) (fun e he => (hE e he).elim)⟩
                        have S3244 := S3223.step e3237 eG3240 sG3241 hn3242
                        obtain ⟨g3245, hw⟩ := cW_grd hw
                        refine ⟨_, rfl, v3235, due_3190, (Rp.mono S3244.sG r3243), (Rp.mono S3244.sG (Rp.mono eG3240 r3230)), g3245, _, rfl, ?_⟩
                        refine iteB (fun c3246 => ?_) (fun c3246 => ?_)
                        · have hw := cW_pos c3246 hw
                          have hw := cW_ok hw
                          have hw := hK3183 (.rt _) hw
                          have hw := hK3166 (.rt _) hw
                          have hw := cW_ok hw
                          have hw := hK3157 (.rt _) hw
                          have hw := hK3139 (.rt _) hw
                          have hw := cW_ok hw
                          have hw := hK2642 (.rt _) hw
                          have hw := hK2568 (.rt _) hw
                          have hw := cW_ok hw
                          exact eq_bl (k _) (hK0 _ hw).symm
                        · have hw := cW_negB c3246 hw
                          have hw := cW_ok hw
                          have hw := hK3183 _ hw
                          have h3247 := (e3237 _ _ h3224)
                          have h3248 := (e3237 _ _ h3225)
                          have h3249 := (e3237 _ _ h3226)
                          have h3250 := (e3237 _ _ h3227)
                          have h3251 := (e3237 _ _ h3228)
                          have h3252 := (e3237 _ _ h3229)
                          have w3253 : OwAll G3239 H3236 L2942 (vs2940) ((v2925.2.1.lines : (List (List PyData))).map (oL (oF encD))) := (OwAll.mono eG3240 keeps_refl (OwAll.mono (Same.refl _) (keeps_same e3237) w3231))
                          have w3254 : OwAll G3239 H3236 L2943 (vs2941) ((v2925.2.2 : (List (List PyData))).map (oL (oF encD))) := (OwAll.mono eG3240 keeps_refl (OwAll.mono (Same.refl _) (keeps_same e3237) w3232))
                          exact ⟨_, _, _, rfl, (Same.trans (Same.trans eG3180 eG3234) eG3240), S3244, h3247, h3248, h3249, h3250, h3251, h3252, w3253, w3254, hw⟩
                    · intro σ H3255 hw
                      obtain ⟨u3167, u3168, G3265, rfl, eG3266, S3256, h3257, h3258, h3259, h3260, h3261, h3262, w3263, w3264, hw⟩ := hw
                      have hw := cW_aftgo (hK3166 _ (cW_forR0 (rng_len _ _).symm hw))
                      have hw : cW (F_law_r6  ) _ EE := hw
                      unfold F_law_r6 at hw
                      have hw := cW_ok hw
                      have hw := hK3157 _ hw
                      exact ⟨_, _, _, _, rfl, (Same.trans eG3154 eG3266), S3256, h3257, h3258, h3259, h3260, h3261, h3262, w3263, w3264, hw⟩
                  · intro σ H3267 hw
                    obtain ⟨u3140, u3141, u3142, G3277, rfl, eG3278, S3268, h3269, h3270, h3271, h3272, h3273, h3274, w3275, w3276, hw⟩ := hw
                    have hw := cW_aftgo (hK3139 _ (cW_forR0 (rng_len _ _).symm hw))
                    have hw : cW (F_law_r5 (v2925.2.1) (v2925.2.2) ) _ EE := hw
                    unfold F_law_r5 at hw
                    have hw := cW_ok hw
                    have hw := hK2642 _ hw
                    exact ⟨(v2925.2.1), (vs2940), L2942, (v2925.2.2), (vs2941), L2943, _, _, _, _, _, _, _, _, _, _, _, _, _, _, rfl, (Same.trans (Same.trans (Same.trans (Same.trans (Same.trans (Same.trans (Same.trans (Same.trans (Same.trans (Same.trans (Same.trans (Same.trans (Same.trans (Same.trans (Same.trans (Same.trans (Same.trans (Same.trans eG2637 eG2761) eG2767) eG2785) eG2804) eG2835) eG2847) eG2865) eG2885) eG2916) eG2933) eG2973) eG2985) eG2997) eG3009) eG3021) eG3033) eG3130) eG3278), (S3268.sub (all_cons (.head _) (all_cons (.tail _ (.head _)) (all_cons (.tail _ (.tail _ (.head _))) (all_cons (.tail _ (.tail _ (.tail _ (.head _)))) (all_cons (.tail _ (.tail _ (.tail _ (.tail _ (.tail _ (.head _)))))) (all_app ((fun b hb => (.tail _ (.tail _ (.tail _ (.tail _ (.tail _ (.tail _ (List.mem_append_left _ hb)))))))) : ∀ b ∈ L2942, b ∈ (p2406 :: (x2416 :: (l2428 :: (D2452 :: (p2656 :: (p2556 :: (L2942 ++ (L2943 ++ []))))))))) (all_app ((fun b hb => (.tail _ (.tail _ (.tail _ (.tail _ (.tail _ (.tail _ (List.mem_append_right _ (List.mem_append_left _ hb))))))))) : ∀ b ∈ L2943, b ∈ (p2406 :: (x2416 :: (l2428 :: (D2452 :: (p2656 :: (p2556 :: (L2942 ++ (L2943 ++ []))))))))) all_nil)))))))), h3269, h3270, h3271, h3272, h3274, (grown_ne hs2944 (ne2623 : ∀ b ∈ L2571, b ≠ p2406) (S2914.ow _ (.head _)).2.1), ne2950, ne2951, ne2952, (grown_ne hs2944 (ne2627 : ∀ b ∈ L2571, b ≠ p2556) (S2914.ow _ (.tail _ (.tail _ (.tail _ (.tail _ (.tail _ (.head _))))))).2.1), (fun b hb => (ne2956 b hb)), (grown_ne hs2945 (ne2629 : ∀ b ∈ L2574, b ≠ p2406) (S2914.ow _ (.head _)).2.1), ne2953, ne2954, ne2955, (grown_ne hs2945 (ne2633 : ∀ b ∈ L2574, b ≠ p2556) (S2914.ow _ (.tail _ (.tail _ (.tail _ (.tail _ (.tail _ (.head _))))))).2.1), w3275, w3276, hw⟩
    · intro σ H3279 hw
      obtain ⟨actual_2569, vs2570, L2571, grid_2572, vs2573, L2574, u2575, u2576, u2577, u2578, u2579, u2580, u2581, u2582, u2583, u2584, u2585, u2586, u2587, G3299, rfl, eG3300, S3280, h3281, h3282, h3283, h3284, h3285, ne3286, ne3287, ne3288, ne3289, ne3290, ne3291, ne3292, ne3293, ne3294, ne3295, ne3296, w3297, w3298, hw⟩ := hw
      have hw := cW_aftgo (hK2568 _ (cW_forR0 (by rw [List.length_map]) hw))
      have hw : cW (F_law_r2  (actual_2569) (grid_2572)) _ EE := hw
      unfold F_law_r2 at hw
      have hw := cW_ok hw
      exact eq_bl (k _) (hK0 _ hw).symm
end
def spL (K : PySem.W.Frag) : Sp := fun vs H Q _ => ∃ (a_script : Addr) (script : List Int), vs = [.ref a_script] ∧ SqL K H a_script (script.map V.int) ∧ script.length ≤ 63 ∧ ∀ H', Q (.bl true) H'
theorem all_mk {l : PySem.W.OpenLaw} {w : World} {K : PySem.W.Frag} {h : Heap} {mg : Str → Option Value} {fa : Addr} (X : K.In h) (G : h.Ns mainGlobals mg) (hfa : mg "law" = some (.ref fa))
    {f0 f1 f2 f3 f4 f5 f6 f7 f8 f9 f10 f11 f12 f13 f14 f15 f16 f17 CMotionGrid : Addr} {od0 an0 od1 an1 od2 an2 od3 an3 od4 an4 od5 an5 od6 an6 od7 an7 od8 an8 od9 an9 od10 an10 od11 an11 od12 an12 od13 an13 od14 an14 od15 an15 od16 an16 od17 an17 : Option Addr} {sl0 sl1 sl2 sl3 sl4 sl5 sl6 sl7 sl8 sl9 sl10 sl11 sl12 sl13 sl14 sl15 sl16 sl17 : Array (Option Value)} {oc0 kV0 dc0 pm0 cd0 ct0 oc1 kV1 dc1 pm1 cd1 ct1 oc2 kV2 dc2 pm2 cd2 ct2 oc3 kV3 dc3 pm3 cd3 ct3 oc4 kV4 dc4 pm4 cd4 ct4 oc5 kV5 dc5 pm5 cd5 ct5 oc6 kV6 dc6 pm6 cd6 ct6 oc7 kV7 dc7 pm7 cd7 ct7 oc8 kV8 dc8 pm8 cd8 ct8 oc9 kV9 dc9 pm9 cd9 ct9 oc10 kV10 dc10 pm10 cd10 ct10 oc11 kV11 dc11 pm11 cd11 ct11 oc12 kV12 dc12 pm12 cd12 ct12 oc13 kV13 dc13 pm13 cd13 ct13 oc14 kV14 dc14 pm14 cd14 ct14 oc15 dc15 pm15 cd15 ct15 oc16 kV16 dc16 pm16 cd16 ct16 oc17 kV17 dc17 pm17 cd17 ct17 : Value} {D15 : Addr} {tk6 tk7 : Tok}
    (wMotionGrid : PySem.W.nsIn K mainGlobals "MotionGrid" = some (some (.ref CMotionGrid))) (a0 : PySem.W.nsIn K mainGlobals "_law_draws" = some (some (.ref f0))) (l0 : K.lookup f0 = some ⟨oc0, od0, .func (PySem.W.fnOf "_law_draws" "_law_draws" (defArgs s__law_draws) (defBody s__law_draws) (defScope s__law_draws) .none kV0 dc0 pm0 an0 cd0 ct0), sl0⟩) (c0 : PySem.W.codeIn K cd0 "_law_draws" = true) (k0 : PySem.W.keepIn K (.ref f0) = true) (a1 : PySem.W.findIn K (.ref CMotionGrid) "__init__" = some (some (.ref f1))) (b1 : PySem.W.isFn K (.ref f1) = true) (d1 : PySem.W.makesIn K CMotionGrid = true) (e1 : PySem.W.keepIn K (.ref CMotionGrid) = true) (l1 : K.lookup f1 = some ⟨oc1, od1, .func (PySem.W.fnOf "__init__" "MotionGrid.__init__" (defArgs s_MotionGrid___init__) (defBody s_MotionGrid___init__) (defScope s_MotionGrid___init__) .none kV1 dc1 pm1 an1 cd1 ct1), sl1⟩) (c1 : PySem.W.codeIn K cd1 "MotionGrid.__init__" = true) (k1 : PySem.W.keepIn K (.ref f1) = true) (a2 : PySem.W.nsIn K mainGlobals "_law_cell" = some (some (.ref f2))) (l2 : K.lookup f2 = some ⟨oc2, od2, .func (PySem.W.fnOf "_law_cell" "_law_cell" (defArgs s__law_cell) (defBody s__law_cell) (defScope s__law_cell) .none kV2 dc2 pm2 an2 cd2 ct2), sl2⟩) (c2 : PySem.W.codeIn K cd2 "_law_cell" = true) (k2 : PySem.W.keepIn K (.ref f2) = true) (a3 : PySem.W.nsIn K mainGlobals "_law_vector" = some (some (.ref f3))) (l3 : K.lookup f3 = some ⟨oc3, od3, .func (PySem.W.fnOf "_law_vector" "_law_vector" (defArgs s__law_vector) (defBody s__law_vector) (defScope s__law_vector) .none kV3 dc3 pm3 an3 cd3 ct3), sl3⟩) (c3 : PySem.W.codeIn K cd3 "_law_vector" = true) (k3 : PySem.W.keepIn K (.ref f3) = true) (a4 : PySem.W.nsIn K mainGlobals "_law_median" = some (some (.ref f4))) (l4 : K.lookup f4 = some ⟨oc4, od4, .func (PySem.W.fnOf "_law_median" "_law_median" (defArgs s__law_median) (defBody s__law_median) (defScope s__law_median) .none kV4 dc4 pm4 an4 cd4 ct4), sl4⟩) (c4 : PySem.W.codeIn K cd4 "_law_median" = true) (k4 : PySem.W.keepIn K (.ref f4) = true) (a5 : PySem.W.nsIn K mainGlobals "_law_predicted" = some (some (.ref f5))) (l5 : K.lookup f5 = some ⟨oc5, od5, .func (PySem.W.fnOf "_law_predicted" "_law_predicted" (defArgs s__law_predicted) (defBody s__law_predicted) (defScope s__law_predicted) .none kV5 dc5 pm5 an5 cd5 ct5), sl5⟩) (c5 : PySem.W.codeIn K cd5 "_law_predicted" = true) (k5 : PySem.W.keepIn K (.ref f5) = true) (a6 : PySem.W.nsIn K mainGlobals "_law_component" = some (some (.ref f6))) (l6 : K.lookup f6 = some ⟨oc6, od6, .func (PySem.W.fnOf "_law_component" "_law_component" (defArgs s__law_component) (defBody s__law_component) (defScope s__law_component) .none kV6 dc6 pm6 an6 cd6 ct6), sl6⟩) (c6 : PySem.W.codeIn K cd6 "_law_component" = true) (k6 : PySem.W.keepIn K (.ref f6) = true) (a7 : PySem.W.nsIn K mainGlobals "_law_motion" = some (some (.ref f7))) (l7 : K.lookup f7 = some ⟨oc7, od7, .func (PySem.W.fnOf "_law_motion" "_law_motion" (defArgs s__law_motion) (defBody s__law_motion) (defScope s__law_motion) .none kV7 dc7 pm7 an7 cd7 ct7), sl7⟩) (c7 : PySem.W.codeIn K cd7 "_law_motion" = true) (k7 : PySem.W.keepIn K (.ref f7) = true) (a8 : PySem.W.findIn K (.ref CMotionGrid) "_has" = some (some (.ref f8))) (b8 : PySem.W.isFn K (.ref f8) = true) (l8 : K.lookup f8 = some ⟨oc8, od8, .func (PySem.W.fnOf "_has" "MotionGrid._has" (defArgs s_MotionGrid__has) (defBody s_MotionGrid__has) (defScope s_MotionGrid__has) .none kV8 dc8 pm8 an8 cd8 ct8), sl8⟩) (c8 : PySem.W.codeIn K cd8 "MotionGrid._has" = true) (k8 : PySem.W.keepIn K (.ref f8) = true) (a9 : PySem.W.findIn K (.ref CMotionGrid) "keep_quarter" = some (some (.ref f9))) (b9 : PySem.W.isFn K (.ref f9) = true) (l9 : K.lookup f9 = some ⟨oc9, od9, .func (PySem.W.fnOf "keep_quarter" "MotionGrid.keep_quarter" (defArgs s_MotionGrid_keep_quarter) (defBody s_MotionGrid_keep_quarter) (defScope s_MotionGrid_keep_quarter) .none kV9 dc9 pm9 an9 cd9 ct9), sl9⟩) (c9 : PySem.W.codeIn K cd9 "MotionGrid.keep_quarter" = true) (k9 : PySem.W.keepIn K (.ref f9) = true) (a10 : PySem.W.findIn K (.ref CMotionGrid) "keep" = some (some (.ref f10))) (b10 : PySem.W.isFn K (.ref f10) = true) (l10 : K.lookup f10 = some ⟨oc10, od10, .func (PySem.W.fnOf "keep" "MotionGrid.keep" (defArgs s_MotionGrid_keep) (defBody s_MotionGrid_keep) (defScope s_MotionGrid_keep) .none kV10 dc10 pm10 an10 cd10 ct10), sl10⟩) (c10 : PySem.W.codeIn K cd10 "MotionGrid.keep" = true) (k10 : PySem.W.keepIn K (.ref f10) = true) (a11 : PySem.W.nsIn K mainGlobals "_law_keep" = some (some (.ref f11))) (l11 : K.lookup f11 = some ⟨oc11, od11, .func (PySem.W.fnOf "_law_keep" "_law_keep" (defArgs s__law_keep) (defBody s__law_keep) (defScope s__law_keep) .none kV11 dc11 pm11 an11 cd11 ct11), sl11⟩) (c11 : PySem.W.codeIn K cd11 "_law_keep" = true) (k11 : PySem.W.keepIn K (.ref f11) = true) (a12 : PySem.W.nsIn K mainGlobals "_median" = some (some (.ref f12))) (l12 : K.lookup f12 = some ⟨oc12, od12, .func (PySem.W.fnOf "_median" "_median" (defArgs s__median) (defBody s__median) (defScope s__median) .none kV12 dc12 pm12 an12 cd12 ct12), sl12⟩) (c12 : PySem.W.codeIn K cd12 "_median" = true) (k12 : PySem.W.keepIn K (.ref f12) = true) (a13 : PySem.W.findIn K (.ref CMotionGrid) "motion_at" = some (some (.ref f13))) (b13 : PySem.W.isFn K (.ref f13) = true) (l13 : K.lookup f13 = some ⟨oc13, od13, .func (PySem.W.fnOf "motion_at" "MotionGrid.motion_at" (defArgs s_MotionGrid_motion_at) (defBody s_MotionGrid_motion_at) (defScope s_MotionGrid_motion_at) .none kV13 dc13 pm13 an13 cd13 ct13), sl13⟩) (c13 : PySem.W.codeIn K cd13 "MotionGrid.motion_at" = true) (k13 : PySem.W.keepIn K (.ref f13) = true) (a14 : PySem.W.findIn K (.ref CMotionGrid) "_vector_at" = some (some (.ref f14))) (b14 : PySem.W.isFn K (.ref f14) = true) (l14 : K.lookup f14 = some ⟨oc14, od14, .func (PySem.W.fnOf "_vector_at" "MotionGrid._vector_at" (defArgs s_MotionGrid__vector_at) (defBody s_MotionGrid__vector_at) (defScope s_MotionGrid__vector_at) .none kV14 dc14 pm14 an14 cd14 ct14), sl14⟩) (c14 : PySem.W.codeIn K cd14 "MotionGrid._vector_at" = true) (k14 : PySem.W.keepIn K (.ref f14) = true) (a15 : PySem.W.findIn K (.ref CMotionGrid) "predicted" = some (some (.ref f15))) (b15 : PySem.W.isFn K (.ref f15) = true) (l15 : K.lookup f15 = some ⟨oc15, od15, .func (PySem.W.fnOf "predicted" "MotionGrid.predicted" (defArgs s_MotionGrid_predicted) (defBody s_MotionGrid_predicted) (defScope s_MotionGrid_predicted) .none (.ref D15) dc15 pm15 an15 cd15 ct15), sl15⟩) (c15 : PySem.W.codeIn K cd15 "MotionGrid.predicted" = true) (k15 : PySem.W.keepIn K (.ref f15) = true) (kd15_0 : PySem.W.nsIn K D15 "second" = some (some (.bool false))) (a16 : PySem.W.findIn K (.ref CMotionGrid) "skipped" = some (some (.ref f16))) (b16 : PySem.W.isFn K (.ref f16) = true) (l16 : K.lookup f16 = some ⟨oc16, od16, .func (PySem.W.fnOf "skipped" "MotionGrid.skipped" (defArgs s_MotionGrid_skipped) (defBody s_MotionGrid_skipped) (defScope s_MotionGrid_skipped) .none kV16 dc16 pm16 an16 cd16 ct16), sl16⟩) (c16 : PySem.W.codeIn K cd16 "MotionGrid.skipped" = true) (k16 : PySem.W.keepIn K (.ref f16) = true) (a17 : PySem.W.nsIn K mainGlobals "law" = some (some (.ref f17))) (l17 : K.lookup f17 = some ⟨oc17, od17, .func (PySem.W.fnOf "law" "law" (defArgs s_law) (defBody s_law) (defScope s_law) .none kV17 dc17 pm17 an17 cd17 ct17), sl17⟩) (c17 : PySem.W.codeIn K cd17 "law" = true) (k17 : PySem.W.keepIn K (.ref f17) = true)
    (z0 : PySem.W.nsIn K mainGlobals "abs" = some none) (z1 : PySem.W.nsIn K mainGlobals "int" = some none) (z2 : PySem.W.nsIn K mainGlobals "range" = some none) (z3 : PySem.W.nsIn K mainGlobals "len" = some none) (z4 : PySem.W.nsIn K mainGlobals "sorted" = some none) (z5 : PySem.W.nsIn K mainGlobals "enumerate" = some none) (z6 : PySem.W.nsIn K mainGlobals "SECOND" = some (some (.int 3 tk6))) (z7 : PySem.W.nsIn K mainGlobals "FIRST" = some (some (.int 2 tk7))) (z8 : PySem.W.nsIn K mainGlobals "isinstance" = some none) (z9 : PySem.W.nsIn K mainGlobals "tuple" = some none) (yMotionGrid0 : PySem.W.plainGet K CMotionGrid Str.empty = true) (yMotionGrid1 : PySem.W.hasDictIn K CMotionGrid = true) (yMotionGrid2 : PySem.W.plainOver K CMotionGrid = true) (yMotionGrid3 : PySem.W.findIn K (.ref CMotionGrid) "__setattr__" = some (some (.builtin "object.__setattr__"))) (xMotionGrid0 : PySem.W.findIn K (.ref CMotionGrid) "_width" = some none) (xMotionGrid1 : PySem.W.findIn K (.ref CMotionGrid) "_height" = some none) (xMotionGrid2 : PySem.W.findIn K (.ref CMotionGrid) "_lines" = some none) :
    ∃ fd : FuncData, (∀ (s : Shared) (v : Value), BindsTo s fd ⟨[v], []⟩ [("script", v)]) ∧ ∀ base : Heap, K.In base → base.Ns mainGlobals mg → FnG l.prog w K mg base CX0 6 fa fd ["script"] (spL K) := by
  have e := hfa.symm.trans (PySem.W.mg_of X G a17)
  cases e
  have T : Txt w K mg ⟨CMotionGrid, fa⟩ := ⟨PySem.W.mg_none_of X G z0, PySem.W.mg_none_of X G z1, PySem.W.mg_none_of X G z2, PySem.W.mg_none_of X G z3, PySem.W.mg_none_of X G z4, PySem.W.mg_none_of X G z5, ⟨_, PySem.W.mg_of X G z6, ⟨_, rfl⟩⟩, ⟨_, PySem.W.mg_of X G z7, ⟨_, rfl⟩⟩, PySem.W.mg_none_of X G z8, PySem.W.mg_none_of X G z9, ⟨yMotionGrid0, yMotionGrid1, yMotionGrid2, yMotionGrid3⟩, xMotionGrid0, xMotionGrid1, xMotionGrid2⟩
  have F0 : FunD K "_law_draws" "_law_draws" (defArgs s__law_draws) (defBody s__law_draws) (defScope s__law_draws) [] [] f0 _ := ⟨⟨_, _, _, _, _, _, _, _, _, _, rfl, l0, c0, .inl ⟨rfl, rfl⟩, .inl rfl⟩, k0⟩
  have D_0 : DefX K mg "_law_draws" s__law_draws ["cell", "limits"] pats__law_draws := ⟨_, _, _, _, F0, PySem.W.mg_of X G a0, (all_consQ (Bnd.all fun us ws vs zs l1 l2 r rz => by
      obtain ⟨u0, u1, rfl⟩ := len2 (r.length.symm.trans l1)
      obtain rfl := len0 (rz.length.symm.trans l2)
      cases r with | cons r0 r =>
        cases r with | cons r1 r =>
          cases r
          cases rz
          exact ⟨[u0, u1], rfl, (.cons r0 (.cons r1 .nil))⟩) all_nilQ)⟩
  have F1 : FunD K "__init__" "MotionGrid.__init__" (defArgs s_MotionGrid___init__) (defBody s_MotionGrid___init__) (defScope s_MotionGrid___init__) [] [] f1 _ := ⟨⟨_, _, _, _, _, _, _, _, _, _, rfl, l1, c1, .inl ⟨rfl, rfl⟩, .inl rfl⟩, k1⟩
  have D_1 : InitX K mg CMotionGrid "MotionGrid" "MotionGrid.__init__" s_MotionGrid___init__ ["self", "columns", "rows"] pats_MotionGrid___init__ := ⟨_, _, _, _, F1, ⟨d1, a1, b1, e1⟩, PySem.W.mg_of X G wMotionGrid, (all_consQ (Bnd.all fun us ws vs zs l1 l2 r rz => by
      obtain ⟨u0, u1, u2, rfl⟩ := len3 (r.length.symm.trans l1)
      obtain rfl := len0 (rz.length.symm.trans l2)
      cases r with | cons r0 r =>
        cases r with | cons r1 r =>
          cases r with | cons r2 r =>
            cases r
            cases rz
            exact ⟨[u0, u1, u2], rfl, (.cons r0 (.cons r1 (.cons r2 .nil)))⟩) all_nilQ)⟩
  have F2 : FunD K "_law_cell" "_law_cell" (defArgs s__law_cell) (defBody s__law_cell) (defScope s__law_cell) [] [] f2 _ := ⟨⟨_, _, _, _, _, _, _, _, _, _, rfl, l2, c2, .inl ⟨rfl, rfl⟩, .inl rfl⟩, k2⟩
  have D_2 : DefX K mg "_law_cell" s__law_cell ["script", "k"] pats__law_cell := ⟨_, _, _, _, F2, PySem.W.mg_of X G a2, (all_consQ (Bnd.all fun us ws vs zs l1 l2 r rz => by
      obtain ⟨u0, u1, rfl⟩ := len2 (r.length.symm.trans l1)
      obtain rfl := len0 (rz.length.symm.trans l2)
      cases r with | cons r0 r =>
        cases r with | cons r1 r =>
          cases r
          cases rz
          exact ⟨[u0, u1], rfl, (.cons r0 (.cons r1 .nil))⟩) all_nilQ)⟩
  have F3 : FunD K "_law_vector" "_law_vector" (defArgs s__law_vector) (defBody s__law_vector) (defScope s__law_vector) [] [] f3 _ := ⟨⟨_, _, _, _, _, _, _, _, _, _, rfl, l3, c3, .inl ⟨rfl, rfl⟩, .inl rfl⟩, k3⟩
  have D_3 : DefX K mg "_law_vector" s__law_vector ["grid", "x", "y", "second"] pats__law_vector := ⟨_, _, _, _, F3, PySem.W.mg_of X G a3, (all_consQ (Bnd.all fun us ws vs zs l1 l2 r rz => by
      obtain ⟨u0, u1, u2, u3, rfl⟩ := len4 (r.length.symm.trans l1)
      obtain rfl := len0 (rz.length.symm.trans l2)
      cases r with | cons r0 r =>
        cases r with | cons r1 r =>
          cases r with | cons r2 r =>
            cases r with | cons r3 r =>
              cases r
              cases rz
              exact ⟨[u0, u1, u2, u3], rfl, (.cons r0 (.cons r1 (.cons r2 (.cons r3 .nil))))⟩) all_nilQ)⟩
  have F4 : FunD K "_law_median" "_law_median" (defArgs s__law_median) (defBody s__law_median) (defScope s__law_median) [] [] f4 _ := ⟨⟨_, _, _, _, _, _, _, _, _, _, rfl, l4, c4, .inl ⟨rfl, rfl⟩, .inl rfl⟩, k4⟩
  have D_4 : DefX K mg "_law_median" s__law_median ["values"] pats__law_median := ⟨_, _, _, _, F4, PySem.W.mg_of X G a4, (all_consQ (Bnd.all fun us ws vs zs l1 l2 r rz => by
      obtain ⟨u0, rfl⟩ := len1 (r.length.symm.trans l1)
      obtain rfl := len0 (rz.length.symm.trans l2)
      cases r with | cons r0 r =>
        cases r
        cases rz
        exact ⟨[u0], rfl, (.cons r0 .nil)⟩) all_nilQ)⟩
  have F5 : FunD K "_law_predicted" "_law_predicted" (defArgs s__law_predicted) (defBody s__law_predicted) (defScope s__law_predicted) [] [] f5 _ := ⟨⟨_, _, _, _, _, _, _, _, _, _, rfl, l5, c5, .inl ⟨rfl, rfl⟩, .inl rfl⟩, k5⟩
  have D_5 : DefX K mg "_law_predicted" s__law_predicted ["grid", "x", "y", "second"] pats__law_predicted := ⟨_, _, _, _, F5, PySem.W.mg_of X G a5, (all_consQ (Bnd.all fun us ws vs zs l1 l2 r rz => by
      obtain ⟨u0, u1, u2, u3, rfl⟩ := len4 (r.length.symm.trans l1)
      obtain rfl := len0 (rz.length.symm.trans l2)
      cases r with | cons r0 r =>
        cases r with | cons r1 r =>
          cases r with | cons r2 r =>
            cases r with | cons r3 r =>
              cases r
              cases rz
              exact ⟨[u0, u1, u2, u3], rfl, (.cons r0 (.cons r1 (.cons r2 (.cons r3 .nil))))⟩) all_nilQ)⟩
  have F6 : FunD K "_law_component" "_law_component" (defArgs s__law_component) (defBody s__law_component) (defScope s__law_component) [] [] f6 _ := ⟨⟨_, _, _, _, _, _, _, _, _, _, rfl, l6, c6, .inl ⟨rfl, rfl⟩, .inl rfl⟩, k6⟩
  have D_6 : DefX K mg "_law_component" s__law_component ["first", "second"] pats__law_component := ⟨_, _, _, _, F6, PySem.W.mg_of X G a6, (all_consQ (Bnd.all fun us ws vs zs l1 l2 r rz => by
      obtain ⟨u0, u1, rfl⟩ := len2 (r.length.symm.trans l1)
      obtain rfl := len0 (rz.length.symm.trans l2)
      cases r with | cons r0 r =>
        cases r with | cons r1 r =>
          cases r
          cases rz
          exact ⟨[u0, u1], rfl, (.cons r0 (.cons r1 .nil))⟩) all_nilQ)⟩
  have F7 : FunD K "_law_motion" "_law_motion" (defArgs s__law_motion) (defBody s__law_motion) (defScope s__law_motion) [] [] f7 _ := ⟨⟨_, _, _, _, _, _, _, _, _, _, rfl, l7, c7, .inl ⟨rfl, rfl⟩, .inl rfl⟩, k7⟩
  have D_7 : DefX K mg "_law_motion" s__law_motion ["cell", "kind", "refs"] pats__law_motion := ⟨_, _, _, _, F7, PySem.W.mg_of X G a7, (all_consQ (Bnd.all fun us ws vs zs l1 l2 r rz => by
      obtain ⟨u0, u1, u2, rfl⟩ := len3 (r.length.symm.trans l1)
      obtain rfl := len0 (rz.length.symm.trans l2)
      cases r with | cons r0 r =>
        cases r with | cons r1 r =>
          cases r with | cons r2 r =>
            cases r
            cases rz
            exact ⟨[u0, u1, u2], rfl, (.cons r0 (.cons r1 (.cons r2 .nil)))⟩) all_nilQ)⟩
  have F8 : FunD K "_has" "MotionGrid._has" (defArgs s_MotionGrid__has) (defBody s_MotionGrid__has) (defScope s_MotionGrid__has) [] [] f8 _ := ⟨⟨_, _, _, _, _, _, _, _, _, _, rfl, l8, c8, .inl ⟨rfl, rfl⟩, .inl rfl⟩, k8⟩
  have D_8 : MethX K CMotionGrid "MotionGrid._has" "_has" s_MotionGrid__has ["self", "x", "y"] pats_MotionGrid__has := ⟨_, _, _, _, F8, ⟨a8, b8, k8⟩, (all_consQ (Bnd.all fun us ws vs zs l1 l2 r rz => by
      obtain ⟨u0, u1, u2, rfl⟩ := len3 (r.length.symm.trans l1)
      obtain rfl := len0 (rz.length.symm.trans l2)
      cases r with | cons r0 r =>
        cases r with | cons r1 r =>
          cases r with | cons r2 r =>
            cases r
            cases rz
            exact ⟨[u0, u1, u2], rfl, (.cons r0 (.cons r1 (.cons r2 .nil)))⟩) all_nilQ)⟩
  have F9 : FunD K "keep_quarter" "MotionGrid.keep_quarter" (defArgs s_MotionGrid_keep_quarter) (defBody s_MotionGrid_keep_quarter) (defScope s_MotionGrid_keep_quarter) [] [] f9 _ := ⟨⟨_, _, _, _, _, _, _, _, _, _, rfl, l9, c9, .inl ⟨rfl, rfl⟩, .inl rfl⟩, k9⟩
  have D_9 : MethX K CMotionGrid "MotionGrid.keep_quarter" "keep_quarter" s_MotionGrid_keep_quarter ["self", "x", "y", "motion"] pats_MotionGrid_keep_quarter := ⟨_, _, _, _, F9, ⟨a9, b9, k9⟩, (all_consQ (Bnd.all fun us ws vs zs l1 l2 r rz => by
      obtain ⟨u0, u1, u2, u3, rfl⟩ := len4 (r.length.symm.trans l1)
      obtain rfl := len0 (rz.length.symm.trans l2)
      cases r with | cons r0 r =>
        cases r with | cons r1 r =>
          cases r with | cons r2 r =>
            cases r with | cons r3 r =>
              cases r
              cases rz
              exact ⟨[u0, u1, u2, u3], rfl, (.cons r0 (.cons r1 (.cons r2 (.cons r3 .nil))))⟩) all_nilQ)⟩
  have F10 : FunD K "keep" "MotionGrid.keep" (defArgs s_MotionGrid_keep) (defBody s_MotionGrid_keep) (defScope s_MotionGrid_keep) [] [] f10 _ := ⟨⟨_, _, _, _, _, _, _, _, _, _, rfl, l10, c10, .inl ⟨rfl, rfl⟩, .inl rfl⟩, k10⟩
  have D_10 : MethX K CMotionGrid "MotionGrid.keep" "keep" s_MotionGrid_keep ["self", "column", "row", "motions"] pats_MotionGrid_keep := ⟨_, _, _, _, F10, ⟨a10, b10, k10⟩, (all_consQ (Bnd.all fun us ws vs zs l1 l2 r rz => by
      obtain ⟨u0, u1, u2, u3, rfl⟩ := len4 (r.length.symm.trans l1)
      obtain rfl := len0 (rz.length.symm.trans l2)
      cases r with | cons r0 r =>
        cases r with | cons r1 r =>
          cases r with | cons r2 r =>
            cases r with | cons r3 r =>
              cases r
              cases rz
              exact ⟨[u0, u1, u2, u3], rfl, (.cons r0 (.cons r1 (.cons r2 (.cons r3 .nil))))⟩) all_nilQ)⟩
  have F11 : FunD K "_law_keep" "_law_keep" (defArgs s__law_keep) (defBody s__law_keep) (defScope s__law_keep) [] [] f11 _ := ⟨⟨_, _, _, _, _, _, _, _, _, _, rfl, l11, c11, .inl ⟨rfl, rfl⟩, .inl rfl⟩, k11⟩
  have D_11 : DefX K mg "_law_keep" s__law_keep ["actual", "grid", "cell", "columns", "rows"] pats__law_keep := ⟨_, _, _, _, F11, PySem.W.mg_of X G a11, (all_consQ (Bnd.all fun us ws vs zs l1 l2 r rz => by
      obtain ⟨u0, u1, u2, u3, u4, rfl⟩ := len5 (r.length.symm.trans l1)
      obtain rfl := len0 (rz.length.symm.trans l2)
      cases r with | cons r0 r =>
        cases r with | cons r1 r =>
          cases r with | cons r2 r =>
            cases r with | cons r3 r =>
              cases r with | cons r4 r =>
                cases r
                cases rz
                exact ⟨[u0, u1, u2, u3, u4], rfl, (.cons r0 (.cons r1 (.cons r2 (.cons r3 (.cons r4 .nil)))))⟩) all_nilQ)⟩
  have F12 : FunD K "_median" "_median" (defArgs s__median) (defBody s__median) (defScope s__median) [] [] f12 _ := ⟨⟨_, _, _, _, _, _, _, _, _, _, rfl, l12, c12, .inl ⟨rfl, rfl⟩, .inl rfl⟩, k12⟩
  have D_12 : DefX K mg "_median" s__median ["numbers"] pats__median := ⟨_, _, _, _, F12, PySem.W.mg_of X G a12, (all_consQ (Bnd.all fun us ws vs zs l1 l2 r rz => by
      obtain ⟨u0, rfl⟩ := len1 (r.length.symm.trans l1)
      obtain rfl := len0 (rz.length.symm.trans l2)
      cases r with | cons r0 r =>
        cases r
        cases rz
        exact ⟨[u0], rfl, (.cons r0 .nil)⟩) all_nilQ)⟩
  have F13 : FunD K "motion_at" "MotionGrid.motion_at" (defArgs s_MotionGrid_motion_at) (defBody s_MotionGrid_motion_at) (defScope s_MotionGrid_motion_at) [] [] f13 _ := ⟨⟨_, _, _, _, _, _, _, _, _, _, rfl, l13, c13, .inl ⟨rfl, rfl⟩, .inl rfl⟩, k13⟩
  have D_13 : MethX K CMotionGrid "MotionGrid.motion_at" "motion_at" s_MotionGrid_motion_at ["self", "x", "y"] pats_MotionGrid_motion_at := ⟨_, _, _, _, F13, ⟨a13, b13, k13⟩, (all_consQ (Bnd.all fun us ws vs zs l1 l2 r rz => by
      obtain ⟨u0, u1, u2, rfl⟩ := len3 (r.length.symm.trans l1)
      obtain rfl := len0 (rz.length.symm.trans l2)
      cases r with | cons r0 r =>
        cases r with | cons r1 r =>
          cases r with | cons r2 r =>
            cases r
            cases rz
            exact ⟨[u0, u1, u2], rfl, (.cons r0 (.cons r1 (.cons r2 .nil)))⟩) all_nilQ)⟩
  have F14 : FunD K "_vector_at" "MotionGrid._vector_at" (defArgs s_MotionGrid__vector_at) (defBody s_MotionGrid__vector_at) (defScope s_MotionGrid__vector_at) [] [] f14 _ := ⟨⟨_, _, _, _, _, _, _, _, _, _, rfl, l14, c14, .inl ⟨rfl, rfl⟩, .inl rfl⟩, k14⟩
  have D_14 : MethX K CMotionGrid "MotionGrid._vector_at" "_vector_at" s_MotionGrid__vector_at ["self", "x", "y", "place"] pats_MotionGrid__vector_at := ⟨_, _, _, _, F14, ⟨a14, b14, k14⟩, (all_consQ (Bnd.all fun us ws vs zs l1 l2 r rz => by
      obtain ⟨u0, u1, u2, u3, rfl⟩ := len4 (r.length.symm.trans l1)
      obtain rfl := len0 (rz.length.symm.trans l2)
      cases r with | cons r0 r =>
        cases r with | cons r1 r =>
          cases r with | cons r2 r =>
            cases r with | cons r3 r =>
              cases r
              cases rz
              exact ⟨[u0, u1, u2, u3], rfl, (.cons r0 (.cons r1 (.cons r2 (.cons r3 .nil))))⟩) all_nilQ)⟩
  have F15 : FunD K "predicted" "MotionGrid.predicted" (defArgs s_MotionGrid_predicted) (defBody s_MotionGrid_predicted) (defScope s_MotionGrid_predicted) [] [("second", V.bl false)] f15 _ := ⟨⟨_, _, _, _, _, _, _, _, _, _, rfl, l15, c15, .inl ⟨rfl, rfl⟩, (.inr ⟨_, rfl, (all_consQ ⟨_, kd15_0, rfl⟩ all_nilQ)⟩)⟩, k15⟩
  have D_15 : MethX K CMotionGrid "MotionGrid.predicted" "predicted" s_MotionGrid_predicted ["self", "x", "y", "second"] pats_MotionGrid_predicted := ⟨_, _, _, _, F15, ⟨a15, b15, k15⟩, (all_consQ (Exists.elim (FunD.kbinds0 F15 3 [] [("second", V.bl false)] (fun {α} => gk_MotionGrid_predicted_0 (α := α)) (by simp) (by simp) (fun r s q => gkrel_MotionGrid_predicted_0 r s q) (fun D doc pm an cdv ct us mv ws h1 h2 h3 => by
        obtain ⟨u0, u1, u2, rfl⟩ := len3 h1
        obtain ⟨m0, rfl⟩ := len1 h2
        obtain rfl := len0 h3
        exact ⟨_, _, _, _, _, _, rfl, rfl, rfl⟩)) fun _ hb => Bnd.of_kbn hb) (all_consQ (Bnd.all fun us ws vs zs l1 l2 r rz => by
      obtain ⟨u0, u1, u2, rfl⟩ := len3 (r.length.symm.trans l1)
      obtain ⟨w0, rfl⟩ := len1 (rz.length.symm.trans l2)
      cases r with | cons r0 r =>
        cases r with | cons r1 r =>
          cases r with | cons r2 r =>
            cases r
            cases rz with | cons q0 rz =>
              cases rz
              exact ⟨[u0, u1, u2, w0], rfl, (.cons r0 (.cons r1 (.cons r2 (.cons q0 .nil))))⟩) all_nilQ))⟩
  have F16 : FunD K "skipped" "MotionGrid.skipped" (defArgs s_MotionGrid_skipped) (defBody s_MotionGrid_skipped) (defScope s_MotionGrid_skipped) [] [] f16 _ := ⟨⟨_, _, _, _, _, _, _, _, _, _, rfl, l16, c16, .inl ⟨rfl, rfl⟩, .inl rfl⟩, k16⟩
  have D_16 : MethX K CMotionGrid "MotionGrid.skipped" "skipped" s_MotionGrid_skipped ["self", "column", "row", "kind"] pats_MotionGrid_skipped := ⟨_, _, _, _, F16, ⟨a16, b16, k16⟩, (all_consQ (Bnd.all fun us ws vs zs l1 l2 r rz => by
      obtain ⟨u0, u1, u2, u3, rfl⟩ := len4 (r.length.symm.trans l1)
      obtain rfl := len0 (rz.length.symm.trans l2)
      cases r with | cons r0 r =>
        cases r with | cons r1 r =>
          cases r with | cons r2 r =>
            cases r with | cons r3 r =>
              cases r
              cases rz
              exact ⟨[u0, u1, u2, u3], rfl, (.cons r0 (.cons r1 (.cons r2 (.cons r3 .nil))))⟩) all_nilQ)⟩
  have F17 : FunD K "law" "law" (defArgs s_law) (defBody s_law) (defScope s_law) [] [] _ _ := ⟨⟨_, _, _, _, _, _, _, _, _, _, rfl, l17, c17, .inl ⟨rfl, rfl⟩, .inl rfl⟩, k17⟩
  have R__law_draws : ∀ base : Heap, CalX l.prog w K mg base 1 "_law_draws" (sp__law_draws K ⟨CMotionGrid, fa⟩) pats__law_draws := fun base => ok__law_draws D_0 T 
  have R_MotionGrid___init__ : ∀ base : Heap, MakX l.prog w K mg base 1 "MotionGrid" (⟨CMotionGrid, fa⟩ : Ads).c_MotionGrid (sp_MotionGrid___init__ K ⟨CMotionGrid, fa⟩) pats_MotionGrid___init__ := fun base => ok_MotionGrid___init__ D_1 T 
  have R__law_cell : ∀ base : Heap, CalX l.prog w K mg base 1 "_law_cell" (sp__law_cell K ⟨CMotionGrid, fa⟩) pats__law_cell := fun base => ok__law_cell D_2 T 
  have R__law_vector : ∀ base : Heap, CalX l.prog w K mg base 1 "_law_vector" (sp__law_vector K ⟨CMotionGrid, fa⟩) pats__law_vector := fun base => ok__law_vector D_3 T 
  have R__law_median : ∀ base : Heap, CalX l.prog w K mg base 1 "_law_median" (sp__law_median K ⟨CMotionGrid, fa⟩) pats__law_median := fun base => ok__law_median D_4 T 
  have R__law_predicted : ∀ base : Heap, CalX l.prog w K mg base 2 "_law_predicted" (sp__law_predicted K ⟨CMotionGrid, fa⟩) pats__law_predicted := fun base => ok__law_predicted D_5 T (R__law_vector base) (R__law_median base)
  have R__law_component : ∀ base : Heap, CalX l.prog w K mg base 1 "_law_component" (sp__law_component K ⟨CMotionGrid, fa⟩) pats__law_component := fun base => ok__law_component D_6 T 
  have R__law_motion : ∀ base : Heap, CalX l.prog w K mg base 2 "_law_motion" (sp__law_motion K ⟨CMotionGrid, fa⟩) pats__law_motion := fun base => ok__law_motion D_7 T (R__law_draws base) (R__law_component base)
  have R_MotionGrid__has : ∀ base : Heap, MetX l.prog w K mg base 1 (⟨CMotionGrid, fa⟩ : Ads).c_MotionGrid "_has" (sp_MotionGrid__has K ⟨CMotionGrid, fa⟩) pats_MotionGrid__has := fun base => ok_MotionGrid__has D_8 T 
  have R_MotionGrid_keep_quarter : ∀ base : Heap, MetX l.prog w K mg base 2 (⟨CMotionGrid, fa⟩ : Ads).c_MotionGrid "keep_quarter" (sp_MotionGrid_keep_quarter K ⟨CMotionGrid, fa⟩) pats_MotionGrid_keep_quarter := fun base => ok_MotionGrid_keep_quarter D_9 T (R_MotionGrid__has base)
  have R_MotionGrid_keep : ∀ base : Heap, MetX l.prog w K mg base 3 (⟨CMotionGrid, fa⟩ : Ads).c_MotionGrid "keep" (sp_MotionGrid_keep K ⟨CMotionGrid, fa⟩) pats_MotionGrid_keep := fun base => ok_MotionGrid_keep D_10 T (R_MotionGrid_keep_quarter base)
  have R__law_keep : ∀ base : Heap, CalX l.prog w K mg base 4 "_law_keep" (sp__law_keep K ⟨CMotionGrid, fa⟩) pats__law_keep := fun base => ok__law_keep D_11 T (R__law_draws base) (R__law_motion base) (R_MotionGrid_keep_quarter base) (R_MotionGrid_keep base)
  have R__median : ∀ base : Heap, CalX l.prog w K mg base 1 "_median" (sp__median K ⟨CMotionGrid, fa⟩) pats__median := fun base => ok__median D_12 T 
  have R_MotionGrid_motion_at : ∀ base : Heap, MetX l.prog w K mg base 2 (⟨CMotionGrid, fa⟩ : Ads).c_MotionGrid "motion_at" (sp_MotionGrid_motion_at K ⟨CMotionGrid, fa⟩) pats_MotionGrid_motion_at := fun base => ok_MotionGrid_motion_at D_13 T (R_MotionGrid__has base)
  have R_MotionGrid__vector_at : ∀ base : Heap, MetX l.prog w K mg base 3 (⟨CMotionGrid, fa⟩ : Ads).c_MotionGrid "_vector_at" (sp_MotionGrid__vector_at K ⟨CMotionGrid, fa⟩) pats_MotionGrid__vector_at := fun base => ok_MotionGrid__vector_at D_14 T (R_MotionGrid_motion_at base)
  have R_MotionGrid_predicted : ∀ base : Heap, MetX l.prog w K mg base 4 (⟨CMotionGrid, fa⟩ : Ads).c_MotionGrid "predicted" (sp_MotionGrid_predicted K ⟨CMotionGrid, fa⟩) pats_MotionGrid_predicted := fun base => ok_MotionGrid_predicted D_15 T (R_MotionGrid__vector_at base) (R__median base)
  have R_MotionGrid_skipped : ∀ base : Heap, MetX l.prog w K mg base 5 (⟨CMotionGrid, fa⟩ : Ads).c_MotionGrid "skipped" (sp_MotionGrid_skipped K ⟨CMotionGrid, fa⟩) pats_MotionGrid_skipped := fun base => ok_MotionGrid_skipped D_16 T (R_MotionGrid_predicted base)

  refine ⟨PySem.W.fnOf "law" "law" (defArgs s_law) (defBody s_law) (defScope s_law) .none kV17 dc17 pm17 an17 cd17 ct17, fun s v => .of_eq rfl, fun base _ _ => (ok_law (AD := ⟨CMotionGrid, fa⟩) F17 T (R__law_draws base) (R__law_cell base) (R_MotionGrid___init__ base) (R_MotionGrid_predicted base) (R__law_predicted base) (R_MotionGrid_skipped base) (R__law_keep base) (R_MotionGrid_motion_at base)).imp ?_⟩
  rintro vs H Q E ⟨a, xs, rfl, hs, hl, q⟩
  exact ⟨a, xs, rfl, hs, by rw [law_true xs hl]; exact cW_mk rfl, q⟩
end Vx
open PySem PySem.W PyProof.Rows
set_option maxRecDepth 100000 in
set_option maxHeartbeats 0 in
theorem PySem.Challenge.cw_thaumatrope_k32_motion_kept_and_predicte_holds : PySem.Challenge.rw_thaumatrope_k32_motion_kept_and_predicte.Holds := by
  w_on; o_law; k_head; (case hw => w_witness2)
  k_fill
  refine Vx.walkG (l := PySem.Challenge.rw_thaumatrope_k32_motion_kept_and_predicte) (n := 63) (k := 6) (x := "script") rfl (by decide) rfl ⟨rfl, by decide, by decide⟩ (fun w h Y => PySem.W.kIn_of Y) ?F
  case F =>
    intro w mg fa h KX G hmg
    refine' Vx.all_mk KX G hmg ?wMotionGrid ?a0 ?l0 ?c0 ?k0 ?a1 ?b1 ?d1 ?e1 ?l1 ?c1 ?k1 ?a2 ?l2 ?c2 ?k2 ?a3 ?l3 ?c3 ?k3 ?a4 ?l4 ?c4 ?k4 ?a5 ?l5 ?c5 ?k5 ?a6 ?l6 ?c6 ?k6 ?a7 ?l7 ?c7 ?k7 ?a8 ?b8 ?l8 ?c8 ?k8 ?a9 ?b9 ?l9 ?c9 ?k9 ?a10 ?b10 ?l10 ?c10 ?k10 ?a11 ?l11 ?c11 ?k11 ?a12 ?l12 ?c12 ?k12 ?a13 ?b13 ?l13 ?c13 ?k13 ?a14 ?b14 ?l14 ?c14 ?k14 ?a15 ?b15 ?l15 ?c15 ?k15 ?kd15_0 ?a16 ?b16 ?l16 ?c16 ?k16 ?a17 ?l17 ?c17 ?k17 ?z0 ?z1 ?z2 ?z3 ?z4 ?z5 ?z6 ?z7 ?z8 ?z9 ?yMotionGrid0 ?yMotionGrid1 ?yMotionGrid2 ?yMotionGrid3 ?xMotionGrid0 ?xMotionGrid1 ?xMotionGrid2
    (case wMotionGrid => k_is)
    (case a0 => k_is)
    (case l0 => k_is)
    (case c0 => k_is)
    (case k0 => k_is)
    (case a1 => k_is)
    (case b1 => k_is)
    (case d1 => k_is)
    (case e1 => k_is)
    (case l1 => k_is)
    (case c1 => k_is)
    (case k1 => k_is)
    (case a2 => k_is)
    (case l2 => k_is)
    (case c2 => k_is)
    (case k2 => k_is)
    (case a3 => k_is)
    (case l3 => k_is)
    (case c3 => k_is)
    (case k3 => k_is)
    (case a4 => k_is)
    (case l4 => k_is)
    (case c4 => k_is)
    (case k4 => k_is)
    (case a5 => k_is)
    (case l5 => k_is)
    (case c5 => k_is)
    (case k5 => k_is)
    (case a6 => k_is)
    (case l6 => k_is)
    (case c6 => k_is)
    (case k6 => k_is)
    (case a7 => k_is)
    (case l7 => k_is)
    (case c7 => k_is)
    (case k7 => k_is)
    (case a8 => k_is)
    (case b8 => k_is)
    (case l8 => k_is)
    (case c8 => k_is)
    (case k8 => k_is)
    (case a9 => k_is)
    (case b9 => k_is)
    (case l9 => k_is)
    (case c9 => k_is)
    (case k9 => k_is)
    (case a10 => k_is)
    (case b10 => k_is)
    (case l10 => k_is)
    (case c10 => k_is)
    (case k10 => k_is)
    (case a11 => k_is)
    (case l11 => k_is)
    (case c11 => k_is)
    (case k11 => k_is)
    (case a12 => k_is)
    (case l12 => k_is)
    (case c12 => k_is)
    (case k12 => k_is)
    (case a13 => k_is)
    (case b13 => k_is)
    (case l13 => k_is)
    (case c13 => k_is)
    (case k13 => k_is)
    (case a14 => k_is)
    (case b14 => k_is)
    (case l14 => k_is)
    (case c14 => k_is)
    (case k14 => k_is)
    (case a15 => k_is)
    (case b15 => k_is)
    (case l15 => k_is)
    (case c15 => k_is)
    (case k15 => k_is)
    (case kd15_0 => k_is)
    (case a16 => k_is)
    (case b16 => k_is)
    (case l16 => k_is)
    (case c16 => k_is)
    (case k16 => k_is)
    (case a17 => k_is)
    (case l17 => k_is)
    (case c17 => k_is)
    (case k17 => k_is)
    (case z0 => k_is)
    (case z1 => k_is)
    (case z2 => k_is)
    (case z3 => k_is)
    (case z4 => k_is)
    (case z5 => k_is)
    (case z6 => k_is)
    (case z7 => k_is)
    (case z8 => k_is)
    (case z9 => k_is)
    (case yMotionGrid0 => k_is)
    (case yMotionGrid1 => k_is)
    (case yMotionGrid2 => k_is)
    (case yMotionGrid3 => k_is)
    (case xMotionGrid0 => k_is)
    (case xMotionGrid1 => k_is)
    (case xMotionGrid2 => k_is)
