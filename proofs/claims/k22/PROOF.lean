import PyProof.Rows.All
import Wide.All
import OpenK.AllK
import Wide.FinOn
import HandS.ForMost
import HandS.Codes
import HandS.Steps
import HandS.IsInst
import HandS.Property
import HandS.Wide
import HandS.WideBits
import HandS.Exc
import HandS.Defaults
import HandS.ExcOwn
import HandS.TryOnly
import HandS.WordsExc
import HandS.ExcIs
import HandS.MakeKwOnly
import HandS.RaiseMore
import HandS.Style
import HandS.Zip
import HandS.Iter
import HandS.Walk
import HandS.More
import HandS.SetFor
import HandS.Strs
import PySem.Challenge.RW_thaumatrope_k22_slices_written_and_read
set_option Elab.async false
set_option linter.all false
set_option maxRecDepth 100000
set_option maxHeartbeats 8000000
namespace Vx
open PySem PySem.Spec PyProof.Rows L2

/-! ### heaps -/
def SameX (m : Addr) (H H' : Hp) : Prop := ∀ b o, H b = some o → b ≠ m → H' b = some o
theorem gen_new {H H' : Hp} {p : Addr} {o : HO} (n : H p = none) (h : upd H p o = H') : Same H H' ∧ H' p = some o := by
  subst h
  exact ⟨fun b u e => by rw [upd_ne (ne_of_none e n)]; exact e, upd_same⟩
theorem gen_mut {H H' : Hp} {m : Addr} {o : HO} (h : upd H m o = H') : SameX m H H' ∧ H' m = some o := by
  subst h
  exact ⟨fun b u e n => by rw [upd_ne n]; exact e, upd_same⟩
theorem same_mut {H0 H H' : Hp} {m : Addr} (B : Same H0 H) (x : SameX m H H') (f : H0 m = none) : Same H0 H' :=
  fun b o e => x b o (B b o e) (ne_of_none e f)
theorem map_get {xs : List Int} {i : Nat} {x : V} (h : (xs.map V.int)[i]? = some x) : ∃ o, xs[i]? = some o ∧ x = .int o := by
  rw [List.getElem?_map] at h
  cases e : xs[i]? with
  | none => rw [e] at h; cases h
  | some z => rw [e] at h; exact ⟨z, rfl, (Option.some.inj h).symm⟩
theorem get_len {α : Type} {xs : List α} {i : Nat} {x : α} (h : xs[i]? = some x) : i < xs.length := (List.getElem?_eq_some_iff.mp h).1
theorem eq_int {Q : VK} {H : Hp} {a b : Int} (h : Q (.int a) H) (e : a = b) : Q (.int b) H := e ▸ h
theorem eq_bl {Q : VK} {H : Hp} {a b : Bool} (h : Q (.bl a) H) (e : a = b) : Q (.bl b) H := e ▸ h
theorem small {n : Nat} (h : n ≤ 1000000) : n < sizeLine := Nat.lt_of_le_of_lt h (by decide)
theorem smallE {n : Nat} (h : n ≤ 1000000) : n ≤ sizeLine := Nat.le_of_lt (small h)
theorem snoc_int {xs : List Int} {y : Int} {H : Hp} {p : Addr} (h : H p = some (.lst (xs.map V.int ++ [V.int y]))) : H p = some (.lst ((xs ++ [y]).map V.int)) := by
  rw [List.map_append]; exact h
theorem cat_int {xs ys : List Int} {H : Hp} {p : Addr} (h : H p = some (.lst (xs.map V.int ++ ys.map V.int))) : H p = some (.lst ((xs ++ ys).map V.int)) := by
  rw [List.map_append]; exact h
theorem cast_lst {xs ys : List Int} {H : Hp} {p : Addr} (h : H p = some (.lst (xs.map V.int))) (e : xs = ys) : H p = some (.lst (ys.map V.int)) := e ▸ h

/-! ### tests -/
theorem dT {p : Prop} [Decidable p] (h : decide p = true) : p := of_decide_eq_true h
theorem dF {p : Prop} [Decidable p] (h : ¬ decide p = true) : ¬ p := fun x => h (decide_eq_true x)
theorem iteD {p A B : Prop} [Decidable p] (h1 : p → A) (h2 : ¬ p → B) : if decide p = true then A else B := by
  by_cases h : p
  · rw [if_pos (decide_eq_true h)]; exact h1 h
  · rw [if_neg (fun x => h (of_decide_eq_true x))]; exact h2 h
theorem iteN {p A B : Prop} [Decidable p] (h1 : ¬ p → A) (h2 : p → B) : if (!decide p) = true then A else B := by
  by_cases h : p
  · rw [decide_eq_true h]; exact iteF (h2 h)
  · rw [decide_eq_false h]; exact iteT (h1 h)
theorem iteB {b : Bool} {A B : Prop} (h1 : b = true → A) (h2 : b = false → B) : if b = true then A else B := by
  cases b with
  | true => exact iteT (h1 rfl)
  | false => exact iteF (h2 rfl)
theorem iteBN {b : Bool} {A B : Prop} (h1 : b = false → A) (h2 : b = true → B) : if (!b) = true then A else B := by
  cases b with
  | true => exact iteF (h2 rfl)
  | false => exact iteT (h1 rfl)
theorem iteDT {p A B : Prop} [Decidable p] (h : p) (k : A) : if decide p = true then A else B := by
  rw [if_pos (decide_eq_true h)]; exact k
theorem iteDF {p A B : Prop} [Decidable p] (h : ¬ p) (k : B) : if decide p = true then A else B := by
  rw [if_neg (fun x => h (of_decide_eq_true x))]; exact k
theorem iteNT {p A B : Prop} [Decidable p] (h : ¬ p) (k : A) : if (!decide p) = true then A else B := iteN (fun _ => k) (fun x => (h x).elim)
theorem iteNF {p A B : Prop} [Decidable p] (h : p) (k : B) : if (!decide p) = true then A else B := iteN (fun x => (x h).elim) (fun _ => k)

/-! ### equality of lists of ints -/
theorem eqvAll_ints : ∀ xs ys : List Int, PyData.eqvAll (xs.map PyData.int) (ys.map PyData.int) = decide (xs = ys)
  | [], [] => by simp [PyData.eqvAll]
  | [], y :: ys => by simp [PyData.eqvAll]
  | x :: xs, [] => by simp [PyData.eqvAll]
  | x :: xs, y :: ys => by
    have ih := eqvAll_ints xs ys
    simp only [List.map_cons, PyData.eqvAll, PyData.eqv, ih]
    by_cases h : x = y <;> by_cases h2 : xs = ys <;> simp [h, h2]
end Vx

namespace Vx
open PySem PySem.Spec PyProof.Rows L2
section
variable {X : Cx}
def rEqLi (K : PySem.W.Frag) : R2 := fun x y H Q => ∃ (a b : Addr) (xs ys : List Int), x = .ref a ∧ y = .ref b ∧ SqL K H a (xs.map V.int) ∧ SqL K H b (ys.map V.int) ∧ Q (.bl (decide (xs = ys))) H
def rNeLi (K : PySem.W.Frag) : R2 := fun x y H Q => ∃ (a b : Addr) (xs ys : List Int), x = .ref a ∧ y = .ref b ∧ SqL K H a (xs.map V.int) ∧ SqL K H b (ys.map V.int) ∧ Q (.bl (!decide (xs = ys))) H
theorem dpAll_ints {K : PySem.W.Frag} {H : Hp} : ∀ xs : List Int, DpAll K H (xs.map V.int) (xs.map PyData.int)
  | [] => .nil
  | x :: xs => .cons (.int x) (dpAll_ints xs)
theorem dp_ints {K : PySem.W.Frag} {H : Hp} {a : Addr} {xs : List Int} (h : SqL K H a (xs.map V.int)) : Dp K H (.ref a) (.list (xs.map PyData.int)) := .lst h (dpAll_ints xs)
theorem canLay_ints : ∀ xs : List Int, PyData.canLayAll0 (xs.map PyData.int) = true
  | [] => by simp [PyData.canLayAll0]
  | x :: xs => by simp [PyData.canLayAll0, PyData.canLay0, canLay_ints xs]
theorem depth_ints : ∀ xs : List Int, PyData.depthAll (xs.map PyData.int) = 0
  | [] => by simp [PyData.depthAll]
  | x :: xs => by simp [PyData.depthAll, PyData.depth, depth_ints xs]
theorem shaped_ints (xs : List Int) : SeqAt.shaped (.list (xs.map PyData.int)) = true := by
  unfold SeqAt.shaped
  simp [PyData.canLay0, canLay_ints, PyData.depth, depth_ints]
theorem eqv_ints (xs ys : List Int) : PyData.eqv (.list (xs.map PyData.int)) (.list (ys.map PyData.int)) = decide (xs = ys) := by
  simp only [PyData.eqv]
  exact eqvAll_ints xs ys
theorem op_eqLi (hu : X.A.units + 64 < cLine) : OpR X (compareOp .Eq) (rEqLi X.K) := by
  intro pins s σ H x y v u Q I rx ry h
  obtain ⟨a, b, xs, ys, rfl, rfl, h1, h2, q⟩ := h
  exact op_eqD hu pins s σ H _ _ v u Q I rx ry ⟨_, _, dp_ints h1, dp_ints h2, shaped_ints xs, shaped_ints ys, by rw [eqv_ints]; exact q⟩
theorem op_neLi (hu : X.A.units + 64 < cLine) : OpR X (compareOp .NotEq) (rNeLi X.K) := by
  intro pins s σ H x y v u Q I rx ry h
  obtain ⟨a, b, xs, ys, rfl, rfl, h1, h2, q⟩ := h
  exact op_neD hu pins s σ H _ _ v u Q I rx ry ⟨_, _, dp_ints h1, dp_ints h2, shaped_ints xs, shaped_ints ys, by rw [eqv_ints]; exact q⟩

/-! ### items, slices, repetition, comprehensions of ints -/
def itI (xs : List Int) (i : Int) : Int := (atI xs i).getD 0
theorem atI_int {xs : List Int} {i : Int} (h : -(xs.length : Int) ≤ i ∧ i < xs.length) : atI (xs.map V.int) i = some (.int (itI xs i)) := by
  unfold itI atI
  rw [List.length_map]
  have hk : ∃ j, ixN xs.length i = some j ∧ j < xs.length := by
    unfold ixN
    by_cases h0 : 0 ≤ i
    · refine ⟨i.toNat, ?_, by omega⟩
      rw [if_pos h0, if_pos h.2]
    · refine ⟨(i + xs.length).toNat, ?_, by omega⟩
      rw [if_neg h0, if_pos h.1]
  obtain ⟨j, e, hj⟩ := hk
  rw [e]
  show (xs.map V.int)[j]? = some (V.int ((xs[j]?).getD 0))
  rw [List.getElem?_map, List.getElem?_eq_getElem hj] <;> rfl
def cutI (xs : List Int) (lo hi : Option Int) : List Int := (xs.drop (HT.sIx xs.length 0 lo)).take (HT.sIx xs.length xs.length hi - HT.sIx xs.length 0 lo)
theorem cut_int {xs : List Int} {lo hi : Option Int} {H : Hp} {p : Addr} (h : H p = some (.lst (cutV (xs.map V.int) lo hi))) : H p = some (.lst ((cutI xs lo hi).map V.int)) := by
  rw [h]
  unfold cutV cutI
  rw [List.length_map, List.map_take, List.map_drop]
def rep (xs : List Int) (k : Int) : List Int := (List.replicate k.toNat xs).flatten
theorem rep_int {xs : List Int} {k : Int} {H : Hp} {p : Addr} (h : H p = some (.lst (List.replicate k.toNat (xs.map V.int)).flatten)) : H p = some (.lst ((rep xs k).map V.int)) := by
  rw [h]
  unfold rep
  rw [List.map_flatten, List.map_replicate]
theorem divW_lit {i j : Int} (h : 0 < j) (h2 : j.natAbs.log2 < 9000) : CDivW i j := ⟨h, h2⟩
theorem divW_small {i j : Int} (h : 0 < j) (h2 : j < 2 ^ 128) : CDivW i j := wide_div h (show j.natAbs < 2 ^ 128 by omega) (by decide) (by decide)
theorem comp_list {xs : List Int} {i : Nat} {x y : Int} {f : Int → Int} {H : Hp} {D : Addr} (hi : xs[i]? = some x) (h : H D = some (.lst (((xs.take i).map f).map V.int ++ [V.int y]))) (e : f x = y) : H D = some (.lst (((xs.take (i + 1)).map f).map V.int)) := by
  rw [h, ← e, List.take_succ, hi, List.map_append, List.map_append] <;> rfl
theorem comp_done {xs : List Int} {f : Int → Int} {H : Hp} {D : Addr} (h : H D = some (.lst (((xs.take (xs.map V.int).length).map f).map V.int))) : H D = some (.lst ((xs.map f).map V.int)) := by
  rw [List.length_map, List.take_length] at h
  exact h
theorem comp_range {i : Nat} {y : Int} {f : Nat → Int} {H : Hp} {D : Addr} (h : H D = some (.lst (((List.range i).map f).map V.int ++ [V.int y]))) (e : f i = y) : H D = some (.lst (((List.range (i + 1)).map f).map V.int)) := by
  rw [h, ← e, List.range_succ, List.map_append, List.map_append] <;> rfl
theorem iteBT {b : Bool} {A B : Prop} (h : b = true) (k : A) : if b = true then A else B := by rw [if_pos h]; exact k
theorem iteBF {b : Bool} {A B : Prop} (h : b = false) (k : B) : if b = true then A else B := by rw [if_neg (by rw [h]; decide)]; exact k
theorem take_succ_get {α : Type} {xs : List α} {i : Nat} {x : α} (hi : xs[i]? = some x) : xs.take (i + 1) = xs.take i ++ [x] := by rw [List.take_succ, hi] <;> rfl
end

/-! ### defs of the module, as callers see them -/
section
variable {P : Program} {w : World} {K : PySem.W.Frag} {mg : Str → Option Value} {base : Heap}
structure DefIn (K : PySem.W.Frag) (mg : Str → Option Value) (x : Str) (st : Stmt) (ps : List Str) : Prop where
  ex : ∃ (f : Addr) (fd : FuncData), Fun K x x st f fd ∧ mg x = some (.ref f) ∧ Binds K fd ps []
structure Cal (P : Program) (w : World) (K : PySem.W.Frag) (mg : Str → Option Value) (base : Heap) (k : Nat) (x : Str) (sp : Sp) : Prop where
  ex : ∃ (f : Addr) (fd : FuncData) (ps : List Str), FnOk P w K mg base CX0 k f fd ps sp ∧ mg x = some (.ref f) ∧ PySem.W.keepIn K (.ref f) = true ∧ Binds K fd ps []
theorem DefIn.ok {x : Str} {st : Stmt} {N ps : List Str} {k : Nat} {sp : Sp} (D : DefIn K mg x st ps) (S : FnScope N ps (defScope st)) (len : ∀ vs H Q E, sp vs H Q E → vs.length = ps.length)
    (hbody : ∀ (f : Addr) (cdv : Value) (A : Around) (outer : List Env) (s : Shared) (H : Hp) (vs : List V) (Q : VK) (E : XK), Room k (A.deeper (envOfC x (defScope st) s.heap.objs.size f cdv)) → sp vs H Q E →
      ∃ t, PSs (cxOf CX0 P w K mg base N x (defScope st) f cdv A outer s H E).nox (defBody st) t ∧ t { nx := fun _ H' => Q .non H', rt := Q } (start N vs) H) : Cal P w K mg base (k + 1) x sp := by
  obtain ⟨f, fd, F, hm, b⟩ := D.ex
  exact ⟨f, fd, ps, F.ok S len (fun cdv A outer s H vs Q E hr h => hbody f cdv A outer s H vs Q E hr h), hm, F.kp, b⟩
end
section
variable {X : Cx} {k j : Nat} {x : Str} {sp : Sp} {p pos : Pos} {e : Expr} {es : List Expr} {t : TA}
theorem vx_call (c : Cal X.prog X.w X.K X.mg X.base k x sp) (hr : Room j X.A) (hk : k ≤ j) (hg : Gl X x) (ha : PA X (e :: es) t)
    (hdb : (x == ("__debug__" : Str)) = false := by decide) (he : starEach (e :: es) X.env = (false, eval e X.env) :: starEach es X.env := by rfl) (hpl : (backTo pos (starEach es X.env)).any (·.1) = false := by rfl) :
    PE X (.Call (.Name x p) (e :: es) [] pos) (tCall sp [] E0 t) := by
  obtain ⟨f, fd, ps, F, hm, kp, b⟩ := c.ex
  exact pe_call F (hr.mono hk) hg hm kp b .nil pass0 ha hdb he hpl
end
end Vx

namespace Vx
open PySem PySem.Spec PyProof.Rows L2
section
variable {σ : L2.St} {H : Hp} {ta tb : TE} {x y z : V} {t : TT}
theorem vv_and {a b : Bool} (h1 : Val ta σ H (.bl a)) (h2 : Val tb σ H (.bl b)) : Val (tAndV ta tb) σ H (.bl (a && b)) := fun Q q => h1 _ ⟨a, rfl, by
  cases a with
  | true => exact iteT (h2 Q q)
  | false => exact iteF q⟩
theorem vv_or {a b : Bool} (h1 : Val ta σ H (.bl a)) (h2 : Val tb σ H (.bl b)) : Val (tOrV ta tb) σ H (.bl (a || b)) := fun Q q => h1 _ ⟨a, rfl, by
  cases a with
  | true => exact iteT q
  | false => exact iteF (h2 Q q)⟩
theorem vv_not {a : Bool} (h1 : Val ta σ H (.bl a)) : Val (tNotV ta) σ H (.bl (!a)) := fun Q q => h1 _ ⟨a, rfl, q⟩
theorem vv_un {r : V → Hp → VK → Prop} (ha : Val ta σ H x) (hr : ∀ Q : VK, Q z H → r x H Q) : Val (tUn r ta) σ H z := fun Q q => ha _ (hr Q q)
theorem vv_cmp {p : Int → Int → Bool} (ha : Val ta σ H x) (hb : Val tb σ H y) (hr : ∀ Q : VK, Q z H → ∃ i j, x = .int i ∧ y = .int j ∧ Q (.bl (p i j)) H) : Val (tCmp p ta tb) σ H z := fun Q q => ha _ (hb _ (hr Q q))
theorem vv_call1 {r : List V → Hp → VK → Prop} (ha : Val ta σ H x) (hr : ∀ Q : VK, Q z H → r [x] H Q) : Val (tCB r (tCons ta tNil)) σ H z := fun Q q => ha _ (hr Q q)
theorem vt_cmp {b : Bool} (h : Val ta σ H (.bl b)) : Ans (tB ta) σ H b := fun Q q => h _ ⟨b, rfl, q⟩
theorem vt_val {b : Bool} (h : Val ta σ H (.bl b)) : Ans (tB ta) σ H b := fun Q q => h _ ⟨b, rfl, q⟩
theorem vt_int {i : Int} {K : PySem.W.Frag} (h : Val ta σ H (.int i)) : Ans (fun σ H Q => ta σ H fun x H' => ∃ k, TruV K x H' k ∧ Q k H') σ H (i != 0) := fun Q q => h _ ⟨_, rfl, q⟩
theorem vv_if {p : Prop} [Decidable p] {a b : Int} (ht : Ans t σ H (decide p)) (hx : Val ta σ H (.int a)) (hy : Val tb σ H (.int b)) : Val (tIf t ta tb) σ H (.int (if p then a else b)) := fun Q q => ht _ (by
  by_cases h : p
  · rw [if_pos h] at q; exact iteDT h (hx Q q)
  · rw [if_neg h] at q; exact iteDF h (hy Q q))
theorem vv_ifb {c : Bool} {a b : Int} (ht : Ans t σ H c) (hx : Val ta σ H (.int a)) (hy : Val tb σ H (.int b)) : Val (tIf t ta tb) σ H (.int (if c = true then a else b)) := fun Q q => ht _ (by
  cases c with
  | true => exact iteT (hx Q q)
  | false => exact iteF (hy Q q))
end
end Vx

namespace Vx
open PySem PySem.Spec PyProof.Rows L2
def rLenLi (K : PySem.W.Frag) : List V → Hp → VK → Prop := fun xs H Q => ∃ (p : Addr) (ns : List Int), xs = [.ref p] ∧ SqL K H p (ns.map V.int) ∧ Q (.int (ns.length : Int)) H
theorem call_lenLi {X : Cx} : CallR X (.builtin "len") (rLenLi X.K) := by
  intro pins s σ H xs us Q I r h
  obtain ⟨p, ns, rfl, hs, q⟩ := h
  exact call_len_seq pins s σ H _ us Q I r ⟨p, _, rfl, Or.inl hs, by rw [List.length_map]; exact q⟩
end Vx

namespace Vx
open PySem PySem.Spec PyProof.Rows L2
section
variable {X : Cx} {K : PySem.W.Frag}
theorem ix_listK (hK : X.K = K := by rfl) : IxR X (rIxL K) := hK ▸ ix_list
theorem sl_listK (hK : X.K = K := by rfl) : SlR X (rSlL K) := hK ▸ sl_list
theorem call_lenLiK (hK : X.K = K := by rfl) : CallR X (.builtin "len") (rLenLi K) := hK ▸ call_lenLi
theorem op_eqLiK (hu : X.A.units + 64 < cLine) (hK : X.K = K := by rfl) : OpR X (compareOp .Eq) (rEqLi K) := hK ▸ op_eqLi hu
theorem op_neLiK (hu : X.A.units + 64 < cLine) (hK : X.K = K := by rfl) : OpR X (compareOp .NotEq) (rNeLi K) := hK ▸ op_neLi hu
theorem pi_listK {tg l : Expr} {tl : TE} (hl : PE X l tl) (hK : X.K = K := by rfl) : PI X tg l (iList K tl) := hK ▸ pi_list hl
theorem cr_sumK (hc : X.calm = true) (hK : X.K = K := by rfl) : CallR X (.builtin "sum") (rSum K) := hK ▸ cr_sum hc
theorem cr_maxK (hc : X.calm = true) (hK : X.K = K := by rfl) : CallR X (.builtin "max") (rMax K) := hK ▸ cr_max hc
theorem cr_minK (hc : X.calm = true) (hK : X.K = K := by rfl) : CallR X (.builtin "min") (rMin K) := hK ▸ cr_min hc
end
end Vx

namespace Vx
open PySem PySem.Spec PyProof.Rows L2
theorem tyes_go {σ : L2.St} {H : Hp} {f g : Hp → Prop} (h : f H) : tYes σ H (fun b H3 => if b = true then f H3 else g H3) := by
  show if true = true then f H else g H
  exact iteT h
end Vx

/-! # second part: data of any depth, the stable heap G, the owned addresses O -/
namespace Vx
open PySem PySem.Spec PyProof.Rows L2
mutual
inductive Rp (H : Hp) : V → PyData → Prop
  | non : Rp H .non .none
  | bl (b : Bool) : Rp H (.bl b) (.bool b)
  | int (i : Int) : Rp H (.int i) (.int i)
  | str (x : Str) : Rp H (.str x) (.str x)
  | lst {a : Addr} {xs : List V} {ds : List PyData} : H a = some (.lst xs) → RpAll H xs ds → Rp H (.ref a) (.list ds)
  | tup {a : Addr} {xs : List V} {ds : List PyData} : H a = some (.tup xs) → RpAll H xs ds → Rp H (.ref a) (.tuple ds)
inductive RpAll (H : Hp) : List V → List PyData → Prop
  | nil : RpAll H [] []
  | cons {v : V} {vs : List V} {d : PyData} {ds : List PyData} : Rp H v d → RpAll H vs ds → RpAll H (v :: vs) (d :: ds)
end
mutual
theorem Rp.mono {H H' : Hp} (e : Same H H') : ∀ {v : V} {d : PyData}, Rp H v d → Rp H' v d
  | _, _, .non => .non
  | _, _, .bl b => .bl b
  | _, _, .int i => .int i
  | _, _, .str x => .str x
  | _, _, .lst h r => .lst (e _ _ h) (RpAll.mono e r)
  | _, _, .tup h r => .tup (e _ _ h) (RpAll.mono e r)
theorem RpAll.mono {H H' : Hp} (e : Same H H') : ∀ {vs : List V} {ds : List PyData}, RpAll H vs ds → RpAll H' vs ds
  | _, _, .nil => .nil
  | _, _, .cons a b => .cons (Rp.mono e a) (RpAll.mono e b)
end
mutual
theorem Rp.dp {K : PySem.W.Frag} {H : Hp} : ∀ {v : V} {d : PyData}, Rp H v d → Dp K H v d
  | _, _, .non => .non
  | _, _, .bl b => .bl b
  | _, _, .int i => .int i
  | _, _, .str x => .str x
  | _, _, .lst h r => .lst (SqL.of h) (RpAll.dp r)
  | _, _, .tup h r => .tup (SqT.of h) (RpAll.dp r)
theorem RpAll.dp {K : PySem.W.Frag} {H : Hp} : ∀ {vs : List V} {ds : List PyData}, RpAll H vs ds → DpAll K H vs ds
  | _, _, .nil => .nil
  | _, _, .cons a b => .cons (Rp.dp a) (RpAll.dp b)
end
theorem RpAll.append {H : Hp} : ∀ {xs ys : List V} {ds es : List PyData}, RpAll H xs ds → RpAll H ys es → RpAll H (xs ++ ys) (ds ++ es)
  | _, _, _, _, .nil, s => s
  | _, _, _, _, .cons r t, s => .cons r (RpAll.append t s)
theorem RpAll.ints {H : Hp} : ∀ xs : List Int, RpAll H (xs.map V.int) (xs.map PyData.int)
  | [] => .nil
  | x :: xs => .cons (.int x) (RpAll.ints xs)
theorem RpAll.bls {H : Hp} : ∀ xs : List Bool, RpAll H (xs.map V.bl) (xs.map PyData.bool)
  | [] => .nil
  | x :: xs => .cons (.bl x) (RpAll.bls xs)
theorem RpAll.one {H : Hp} {v : V} {d : PyData} (h : Rp H v d) : RpAll H [v] [d] := .cons h .nil
theorem RpAll.len {H : Hp} : ∀ {vs : List V} {ds : List PyData}, RpAll H vs ds → vs.length = ds.length
  | _, _, .nil => rfl
  | _, _, .cons _ t => by rw [List.length_cons, List.length_cons, RpAll.len t]
theorem RpAll.at {H : Hp} : ∀ {vs : List V} {ds : List PyData} {i : Nat} {v : V}, RpAll H vs ds → vs[i]? = some v → ∃ d, ds[i]? = some d ∧ Rp H v d
  | _, _, _, _, .nil, h => by simp at h
  | _, _, 0, _, .cons r _, h => by
    simp at h
    subst h
    exact ⟨_, rfl, r⟩
  | _, _, i + 1, _, .cons _ t, h => by
    obtain ⟨d, h1, h2⟩ := RpAll.at (i := i) t (by simpa using h)
    exact ⟨d, by simpa using h1, h2⟩
theorem RpAll.at' {H : Hp} : ∀ {vs : List V} {ds : List PyData} {i : Nat} {d : PyData}, RpAll H vs ds → ds[i]? = some d → ∃ v, vs[i]? = some v ∧ Rp H v d
  | _, _, _, _, .nil, h => by simp at h
  | _, _, 0, _, .cons r _, h => by
    simp at h
    subst h
    exact ⟨_, rfl, r⟩
  | _, _, i + 1, _, .cons _ t, h => by
    obtain ⟨v, h1, h2⟩ := RpAll.at' (i := i) t (by simpa using h)
    exact ⟨v, by simpa using h1, h2⟩
theorem RpAll.take {H : Hp} : ∀ (n : Nat) {vs : List V} {ds : List PyData}, RpAll H vs ds → RpAll H (vs.take n) (ds.take n)
  | 0, _, _, _ => by simpa using RpAll.nil
  | n + 1, _, _, .nil => by simpa using RpAll.nil
  | n + 1, _, _, .cons r t => .cons r (RpAll.take n t)
theorem RpAll.drop {H : Hp} : ∀ (n : Nat) {vs : List V} {ds : List PyData}, RpAll H vs ds → RpAll H (vs.drop n) (ds.drop n)
  | 0, _, _, r => r
  | n + 1, _, _, .nil => by simpa using RpAll.nil
  | n + 1, _, _, .cons r t => RpAll.drop n t
theorem RpAll.set {H : Hp} {v : V} {d : PyData} (h : Rp H v d) : ∀ (n : Nat) {vs : List V} {ds : List PyData}, RpAll H vs ds → RpAll H (vs.set n v) (ds.set n d)
  | _, _, _, .nil => .nil
  | 0, _, _, .cons _ t => .cons h t
  | n + 1, _, _, .cons r t => .cons r (RpAll.set h n t)
theorem RpAll.rep {H : Hp} {vs : List V} {ds : List PyData} (h : RpAll H vs ds) : ∀ n : Nat, RpAll H (List.replicate n vs).flatten (List.replicate n ds).flatten
  | 0 => by simpa using RpAll.nil
  | n + 1 => by
    rw [List.replicate_succ, List.flatten_cons, List.replicate_succ, List.flatten_cons]
    exact RpAll.append h (RpAll.rep h n)
theorem RpAll.get {α : Type} {f : α → PyData} {H : Hp} {vs : List V} {xs : List α} {i : Nat} {v : V} (r : RpAll H vs (xs.map f)) (h : vs[i]? = some v) : ∃ x, xs[i]? = some x ∧ Rp H v (f x) := by
  obtain ⟨d, h1, h2⟩ := RpAll.at r h
  rw [List.getElem?_map] at h1
  cases e : xs[i]? with
  | none => rw [e] at h1; cases h1
  | some x =>
    rw [e] at h1
    have : f x = d := Option.some.inj h1
    exact ⟨x, rfl, this ▸ h2⟩
/-- the item at an index, data -/
theorem RpAll.ix {α : Type} {f : α → PyData} {H : Hp} {vs : List V} {xs : List α} {k : Int} (r : RpAll H vs (xs.map f)) (h : -(xs.length : Int) ≤ k ∧ k < xs.length) : ∃ v x, atI vs k = some v ∧ atI xs k = some x ∧ Rp H v (f x) := by
  have hl : vs.length = xs.length := by rw [r.len, List.length_map]
  have hk : ∃ j, ixN xs.length k = some j ∧ j < xs.length := by
    unfold ixN
    by_cases h0 : 0 ≤ k
    · refine ⟨k.toNat, ?_, by omega⟩
      rw [if_pos h0, if_pos h.2]
    · refine ⟨(k + xs.length).toNat, ?_, by omega⟩
      rw [if_neg h0, if_pos h.1]
  obtain ⟨j, e, hj⟩ := hk
  have hx := List.getElem?_eq_getElem hj
  obtain ⟨v, h1, h2⟩ := RpAll.at' (i := j) (d := f xs[j]) r (by rw [List.getElem?_map, hx] <;> rfl)
  refine ⟨v, xs[j], ?_, ?_, h2⟩
  · unfold atI
    rw [hl, e]
    exact h1
  · unfold atI
    rw [e]
    exact hx

/-! ### types -/
def encL {α : Type} (f : α → PyData) (xs : List α) : PyData := .list (xs.map f)
def encT2 {α β : Type} (f : α → PyData) (g : β → PyData) (p : α × β) : PyData := .tuple [f p.1, g p.2]
def encT3 {α β γ : Type} (f : α → PyData) (g : β → PyData) (h : γ → PyData) (p : α × β × γ) : PyData := .tuple [f p.1, g p.2.1, h p.2.2]
def encT4 {α β γ δ : Type} (f : α → PyData) (g : β → PyData) (h : γ → PyData) (i : δ → PyData) (p : α × β × γ × δ) : PyData := .tuple [f p.1, g p.2.1, h p.2.2.1, i p.2.2.2]
structure EncOk {α : Type} [DecidableEq α] (n : Nat) (f : α → PyData) : Prop where
  lay : ∀ x, PyData.canLay0 (f x) = true
  dep : ∀ x, PyData.depth (f x) ≤ n
  eqv : ∀ x y, PyData.eqv (f x) (f y) = decide (x = y)
theorem encOk_int : EncOk 0 PyData.int := ⟨fun _ => by simp [PyData.canLay0], fun _ => by simp [PyData.depth], fun x y => by simp [PyData.eqv]; by_cases h : x = y <;> simp [h]⟩
theorem encOk_bool : EncOk 0 PyData.bool := ⟨fun _ => by simp [PyData.canLay0], fun _ => by simp [PyData.depth], fun x y => by cases x <;> cases y <;> simp [PyData.eqv]⟩
section
variable {α β γ δ : Type} [DecidableEq α] [DecidableEq β] [DecidableEq γ] [DecidableEq δ] {n m l o : Nat} {f : α → PyData} {g : β → PyData} {h : γ → PyData} {i : δ → PyData}
theorem lay_map (ok : EncOk n f) : ∀ xs : List α, PyData.canLayAll0 (xs.map f) = true
  | [] => by simp [PyData.canLayAll0]
  | x :: xs => by simp [PyData.canLayAll0, ok.lay x, lay_map ok xs]
theorem dep_map (ok : EncOk n f) : ∀ xs : List α, PyData.depthAll (xs.map f) ≤ n
  | [] => by simp [PyData.depthAll]
  | x :: xs => by
    have h1 := ok.dep x
    have h2 := dep_map ok xs
    simp only [List.map_cons, PyData.depthAll]
    omega
theorem eqv_map (ok : EncOk n f) : ∀ xs ys : List α, PyData.eqvAll (xs.map f) (ys.map f) = decide (xs = ys)
  | [], [] => by simp [PyData.eqvAll]
  | [], y :: ys => by simp [PyData.eqvAll]
  | x :: xs, [] => by simp [PyData.eqvAll]
  | x :: xs, y :: ys => by
    have ih := eqv_map ok xs ys
    simp only [List.map_cons, PyData.eqvAll, ok.eqv, ih]
    by_cases h : x = y <;> by_cases h2 : xs = ys <;> simp [h, h2]
theorem encOk_L (ok : EncOk n f) : EncOk (n + 1) (encL f) := ⟨fun xs => by simp [encL, PyData.canLay0, lay_map ok], fun xs => by
  have := dep_map ok xs
  simp only [encL, PyData.depth]
  omega, fun xs ys => by simp only [encL, PyData.eqv]; exact eqv_map ok xs ys⟩
theorem encOk_T2 (ok : EncOk n f) (ok2 : EncOk m g) : EncOk (max n m + 1) (encT2 f g) := ⟨fun x => by simp [encT2, PyData.canLay0, PyData.canLayAll0, ok.lay, ok2.lay], fun x => by
  have h1 := ok.dep x.1
  have h2 := ok2.dep x.2
  simp only [encT2, PyData.depth, PyData.depthAll]
  omega, fun x y => by
  obtain ⟨a, b⟩ := x
  obtain ⟨c, d⟩ := y
  simp only [encT2, PyData.eqv, PyData.eqvAll, ok.eqv, ok2.eqv, Prod.mk.injEq]
  by_cases h1 : a = c <;> by_cases h2 : b = d <;> simp [h1, h2]⟩
theorem encOk_T3 (ok : EncOk n f) (ok2 : EncOk m g) (ok3 : EncOk l h) : EncOk (max n (max m l) + 1) (encT3 f g h) := ⟨fun x => by simp [encT3, PyData.canLay0, PyData.canLayAll0, ok.lay, ok2.lay, ok3.lay], fun x => by
  have h1 := ok.dep x.1
  have h2 := ok2.dep x.2.1
  have h3 := ok3.dep x.2.2
  simp only [encT3, PyData.depth, PyData.depthAll]
  omega, fun x y => by
  obtain ⟨a, b, e⟩ := x
  obtain ⟨c, d, e'⟩ := y
  simp only [encT3, PyData.eqv, PyData.eqvAll, ok.eqv, ok2.eqv, ok3.eqv, Prod.mk.injEq]
  by_cases h1 : a = c <;> by_cases h2 : b = d <;> by_cases h3 : e = e' <;> simp [h1, h2, h3]⟩
theorem encOk_T4 (ok : EncOk n f) (ok2 : EncOk m g) (ok3 : EncOk l h) (ok4 : EncOk o i) : EncOk (max n (max m (max l o)) + 1) (encT4 f g h i) := ⟨fun x => by simp [encT4, PyData.canLay0, PyData.canLayAll0, ok.lay, ok2.lay, ok3.lay, ok4.lay], fun x => by
  have h1 := ok.dep x.1
  have h2 := ok2.dep x.2.1
  have h3 := ok3.dep x.2.2.1
  have h4 := ok4.dep x.2.2.2
  simp only [encT4, PyData.depth, PyData.depthAll]
  omega, fun x y => by
  obtain ⟨a, b, e, u⟩ := x
  obtain ⟨c, d, e', u'⟩ := y
  simp only [encT4, PyData.eqv, PyData.eqvAll, ok.eqv, ok2.eqv, ok3.eqv, ok4.eqv, Prod.mk.injEq]
  by_cases h1 : a = c <;> by_cases h2 : b = d <;> by_cases h3 : e = e' <;> by_cases h4 : u = u' <;> simp [h1, h2, h3, h4]⟩
end
section
variable {X : Cx} {α : Type} [DecidableEq α] {n : Nat} {f : α → PyData}
def rEqT (f : α → PyData) : R2 := fun x y H Q => ∃ (a b : α), Rp H x (f a) ∧ Rp H y (f b) ∧ Q (.bl (decide (a = b))) H
def rNeT (f : α → PyData) : R2 := fun x y H Q => ∃ (a b : α), Rp H x (f a) ∧ Rp H y (f b) ∧ Q (.bl (!decide (a = b))) H
theorem shaped_of (ok : EncOk n f) (hn : n ≤ 64) (a : α) : SeqAt.shaped (f a) = true := by
  unfold SeqAt.shaped
  have h := ok.dep a
  rw [ok.lay]
  simp
  omega
theorem op_eqT (ok : EncOk n f) (hu : X.A.units + 64 < cLine) (hn : n ≤ 64 := by decide) : OpR X (compareOp .Eq) (rEqT f) := by
  intro pins s σ H x y v u Q I rx ry h
  obtain ⟨a, b, h1, h2, q⟩ := h
  exact op_eqD hu pins s σ H _ _ v u Q I rx ry ⟨_, _, h1.dp, h2.dp, shaped_of ok hn a, shaped_of ok hn b, by rw [ok.eqv]; exact q⟩
theorem op_neT (ok : EncOk n f) (hu : X.A.units + 64 < cLine) (hn : n ≤ 64 := by decide) : OpR X (compareOp .NotEq) (rNeT f) := by
  intro pins s σ H x y v u Q I rx ry h
  obtain ⟨a, b, h1, h2, q⟩ := h
  exact op_neD hu pins s σ H _ _ v u Q I rx ry ⟨_, _, h1.dp, h2.dp, shaped_of ok hn a, shaped_of ok hn b, by rw [ok.eqv]; exact q⟩
end
section
variable {H : Hp} {v : V} {α β γ δ : Type} {f : α → PyData} {g : β → PyData} {h : γ → PyData} {i : δ → PyData}
theorem rp_int {x : Int} (r : Rp H v (.int x)) : v = .int x := by cases r; rfl
theorem rp_bool {x : Bool} (r : Rp H v (.bool x)) : v = .bl x := by cases r; rfl
theorem rp_str {x : Str} (r : Rp H v (.str x)) : v = .str x := by cases r; rfl
theorem rp_list {xs : List α} (r : Rp H v (encL f xs)) : ∃ a vs, v = .ref a ∧ H a = some (.lst vs) ∧ RpAll H vs (xs.map f) := by
  unfold encL at r
  cases r with
  | lst h1 h2 => exact ⟨_, _, rfl, h1, h2⟩
theorem rpAll_ints : ∀ {vs : List V} {xs : List Int}, RpAll H vs (xs.map PyData.int) → vs = xs.map V.int
  | _, [], .nil => rfl
  | _, x :: xs, .cons r t => by rw [rp_int r, rpAll_ints t] <;> rfl
theorem rp_ints {xs : List Int} (r : Rp H v (encL PyData.int xs)) : ∃ a, v = .ref a ∧ H a = some (.lst (xs.map V.int)) := by
  obtain ⟨a, vs, e, h1, h2⟩ := rp_list r
  rw [rpAll_ints h2] at h1
  exact ⟨a, e, h1⟩
theorem rp_tup2 {x : α × β} (r : Rp H v (encT2 f g x)) : ∃ a v1 v2, v = .ref a ∧ H a = some (.tup [v1, v2]) ∧ Rp H v1 (f x.1) ∧ Rp H v2 (g x.2) := by
  unfold encT2 at r
  cases r with
  | tup h1 h2 =>
    cases h2 with
    | cons a b =>
      cases b with
      | cons b c =>
        cases c
        exact ⟨_, _, _, rfl, h1, a, b⟩
theorem rp_tup3 {x : α × β × γ} (r : Rp H v (encT3 f g h x)) : ∃ a v1 v2 v3, v = .ref a ∧ H a = some (.tup [v1, v2, v3]) ∧ Rp H v1 (f x.1) ∧ Rp H v2 (g x.2.1) ∧ Rp H v3 (h x.2.2) := by
  unfold encT3 at r
  cases r with
  | tup h1 h2 =>
    cases h2 with
    | cons a b =>
      cases b with
      | cons b c =>
        cases c with
        | cons c d =>
          cases d
          exact ⟨_, _, _, _, rfl, h1, a, b, c⟩
theorem rp_mk_list {a : Addr} {vs : List V} {xs : List α} (h1 : H a = some (.lst vs)) (h2 : RpAll H vs (xs.map f)) : Rp H (.ref a) (encL f xs) := .lst h1 h2
theorem rp_mk_ints {a : Addr} {xs : List Int} (h1 : H a = some (.lst (xs.map V.int))) : Rp H (.ref a) (encL PyData.int xs) := .lst h1 (RpAll.ints xs)
theorem rp_mk2 {a : Addr} {v1 v2 : V} {x : α} {y : β} (h1 : H a = some (.tup [v1, v2])) (r1 : Rp H v1 (f x)) (r2 : Rp H v2 (g y)) : Rp H (.ref a) (encT2 f g (x, y)) := .tup h1 (.cons r1 (.cons r2 .nil))
theorem rp_mk3 {a : Addr} {v1 v2 v3 : V} {x : α} {y : β} {z : γ} (h1 : H a = some (.tup [v1, v2, v3])) (r1 : Rp H v1 (f x)) (r2 : Rp H v2 (g y)) (r3 : Rp H v3 (h z)) : Rp H (.ref a) (encT3 f g h (x, y, z)) := .tup h1 (.cons r1 (.cons r2 (.cons r3 .nil)))
end

/-! ### the two heaps -/
def SameXs (L : List Addr) (H H' : Hp) : Prop := ∀ b o, H b = some o → b ∉ L → H' b = some o
theorem SameXs.of {H H' : Hp} {m : Addr} (x : SameX m H H') : SameXs [m] H H' := fun b o e n => x b o e (fun z => n (by rw [z]; exact List.mem_cons_self))
theorem ni1 {b m : Addr} (h : b ≠ m) : b ∉ [m] := by simpa using h
theorem ni2 {b m n : Addr} (h : b ≠ m) (h2 : b ≠ n) : b ∉ [m, n] := by simp [h, h2]
theorem ni3 {b m n o : Addr} (h : b ≠ m) (h2 : b ≠ n) (h3 : b ≠ o) : b ∉ [m, n, o] := by simp [h, h2, h3]
theorem ni4 {b m n o p : Addr} (h : b ≠ m) (h2 : b ≠ n) (h3 : b ≠ o) (h4 : b ≠ p) : b ∉ [m, n, o, p] := by simp [h, h2, h3, h4]
def hideL (L : List Addr) (H : Hp) : Hp := fun b => if b ∈ L then none else H b
theorem hideL_same (L : List Addr) (H : Hp) : Same (hideL L H) H := fun b o e => by
  unfold hideL at e
  split at e
  · cases e
  · exact e
theorem hideL_in {L : List Addr} {H : Hp} {b : Addr} (h : b ∈ L) : hideL L H b = none := if_pos h
theorem hideL_out {L : List Addr} {H : Hp} {b : Addr} (h : b ∉ L) : hideL L H b = H b := if_neg h
/-- M: owned from outside; H0, G0: at the entry; G: what stays as it is; O: what may change -/
structure Sep (M : List Addr) (H0 G0 G H : Hp) (O : List Addr) : Prop where
  base : SameXs M H0 H
  pm : ∀ a ∈ M, H a ≠ none
  sG : Same G H
  g0 : Same G0 G
  gn : ∀ b, H0 b ≠ none → G0 b = none → G b = none
  ow : ∀ a ∈ O, G a = none ∧ H a ≠ none ∧ (a ∈ M ∨ H0 a = none)
theorem all_nil {P : Addr → Prop} : ∀ x ∈ ([] : List Addr), P x := fun x h => by cases h
theorem all_cons {P : Addr → Prop} {a : Addr} {l : List Addr} (h : P a) (t : ∀ x ∈ l, P x) : ∀ x ∈ a :: l, P x := fun x hx => by
  cases hx with
  | head => exact h
  | tail _ hx => exact t x hx
theorem some_ne {H : Hp} {a : Addr} {o : HO} (h : H a = some o) : H a ≠ none := by
  rw [h]
  exact fun z => nomatch z
theorem same_ne {H H' : Hp} {a : Addr} (e : Same H H') (h : H a ≠ none) : H' a ≠ none := by
  cases q : H a with
  | none => exact absurd q h
  | some o => exact some_ne (e a o q)
section
variable {M : List Addr} {H0 G0 G H H' : Hp} {O : List Addr} {p m : Addr} {o : HO}
theorem Sep.start (M : List Addr) (H : Hp) (hM : ∀ a ∈ M, H a ≠ none) : Sep M H (hideL M H) (hideL M H) H M :=
  ⟨fun _ _ e _ => e, hM, hideL_same M H, Same.refl _, fun _ _ e => e, fun a ha => ⟨hideL_in ha, hM a ha, .inl ha⟩⟩
theorem Sep.startG {G H : Hp} (e : Same G H) : Sep [] H G G H [] := ⟨fun _ _ e _ => e, all_nil, e, Same.refl _, fun _ _ e => e, fun a ha => by cases ha⟩
theorem Sep.start0 (H : Hp) : Sep [] H H H H [] := Sep.startG (Same.refl H)
theorem Sep.b0 (S : Sep [] H0 G0 G H O) : Same H0 H := fun b o e => S.base b o e List.not_mem_nil
theorem Sep.free (S : Sep M H0 G0 G H O) {q : Addr} (n : H q = none) : H0 q = none := by
  cases e : H0 q with
  | none => rfl
  | some o =>
    by_cases h : q ∈ M
    · exact absurd n (S.pm q h)
    · rw [S.base q o e h] at n
      cases n
theorem Sep.same (S : Sep M H0 G0 G H O) (e : Same H H') : Sep M H0 G0 G H' O :=
  ⟨fun b o h n => e b o (S.base b o h n), fun a ha => same_ne e (S.pm a ha), S.sG.trans e, S.g0, S.gn, fun a ha => ⟨(S.ow a ha).1, same_ne e (S.ow a ha).2.1, (S.ow a ha).2.2⟩⟩
theorem Sep.gfree (S : Sep M H0 G0 G H O) {q : Addr} (n : H q = none) : G q = none := by
  cases e : G q with
  | none => rfl
  | some o => rw [S.sG q o e] at n; cases n
theorem Sep.new (S : Sep M H0 G0 G H O) (n : H p = none) (e : Same H H') (h : H' p = some o) (hm : H0 p = none) : Sep M H0 G0 G H' (p :: O) := by
  have S1 := S.same e
  refine ⟨S1.base, S1.pm, S1.sG, S1.g0, S1.gn, fun a ha => ?_⟩
  cases ha with
  | head => exact ⟨S.gfree n, some_ne h, .inr hm⟩
  | tail _ ha => exact S1.ow a ha
theorem Sep.grow (S : Sep M H0 G0 G H O) (n : H p = none) (e : Same H H') (h : H' p = some o) (hm : H0 p = none) : ∃ G', Same G G' ∧ G' p = some o ∧ Sep M H0 G0 G' H' O := by
  have S1 := S.same e
  have ng := S.gfree n
  refine ⟨upd G p o, fun b u q => by rw [upd_ne (ne_of_none q ng)]; exact q, upd_same, S1.base, S1.pm, fun b u q => ?_, fun b u q => ?_, fun b hb gb => ?_, fun a ha => ?_⟩
  · by_cases z : b = p
    · subst z
      rw [upd_same] at q
      exact q ▸ h
    · rw [upd_ne z] at q
      exact S1.sG b u q
  · have := S.g0 b u q
    rw [upd_ne (ne_of_none this ng)]
    exact this
  · by_cases z : b = p
    · subst z
      exact absurd hm hb
    · rw [upd_ne z]
      exact S.gn b hb gb
  · have hne : a ≠ p := fun z => (S.ow a ha).2.1 (by rw [z]; exact n)
    rw [upd_ne hne]
    exact S1.ow a ha
theorem Sep.mut (S : Sep M H0 G0 G H O) {L : List Addr} (x : SameXs L H H') (hL : ∀ a ∈ L, a ∈ O) (hs : ∀ a ∈ L, H' a ≠ none) : Sep M H0 G0 G H' O := by
  have keep : ∀ a, H a ≠ none → H' a ≠ none := fun a h => by
    by_cases hb : a ∈ L
    · exact hs a hb
    · cases q : H a with
      | none => exact absurd q h
      | some o => exact some_ne (x a o q hb)
  refine ⟨fun b o e n => ?_, fun a ha => keep a (S.pm a ha), fun b o e => ?_, S.g0, S.gn, fun a ha => ⟨(S.ow a ha).1, keep a (S.ow a ha).2.1, (S.ow a ha).2.2⟩⟩
  · refine x b o (S.base b o e n) fun hb => ?_
    rcases (S.ow b (hL b hb)).2.2 with z | z
    · exact n z
    · rw [e] at z; cases z
  · refine x b o (S.sG b o e) fun hb => ?_
    have := (S.ow b (hL b hb)).1
    rw [e] at this
    cases this
theorem Sep.mut1 (S : Sep M H0 G0 G H O) (x : SameX m H H') (hm : m ∈ O) (h : H' m = some o) : Sep M H0 G0 G H' O :=
  S.mut (SameXs.of x) (all_cons hm all_nil) (all_cons (some_ne h) all_nil)
theorem Sep.sub (S : Sep M H0 G0 G H O) {O' : List Addr} (h : ∀ a ∈ O', a ∈ O) : Sep M H0 G0 G H O' := ⟨S.base, S.pm, S.sG, S.g0, S.gn, fun a ha => S.ow a (h a ha)⟩
/-- what was owned and is to stay as it is from now on -/
theorem Sep.freeze (S : Sep M H0 G0 G H O) {O' : List Addr} (hp : p ∈ O) (h : H p = some o) (hm : H0 p = none) (hO : ∀ a ∈ O', a ∈ O ∧ a ≠ p) : ∃ G', Same G G' ∧ G' p = some o ∧ Sep M H0 G0 G' H O' := by
  have ng := (S.ow p hp).1
  refine ⟨upd G p o, fun b u q => by rw [upd_ne (ne_of_none q ng)]; exact q, upd_same, S.base, S.pm, fun b u q => ?_, fun b u q => ?_, fun b hb gb => ?_, fun a ha => ?_⟩
  · by_cases z : b = p
    · subst z
      rw [upd_same] at q
      exact q ▸ h
    · rw [upd_ne z] at q
      exact S.sG b u q
  · have := S.g0 b u q
    rw [upd_ne (ne_of_none this ng)]
    exact this
  · by_cases z : b = p
    · subst z
      exact absurd hm hb
    · rw [upd_ne z]
      exact S.gn b hb gb
  · rw [upd_ne (hO a ha).2]
    exact S.ow a (hO a ha).1
/-- a callee that hands on data in a stable heap of its own -/
theorem Sep.step (S : Sep M H0 G0 G H O) {G' : Hp} (e : Same H H') (eG : Same G G') (sG : Same G' H') (hn : ∀ b, H b ≠ none → G b = none → G' b = none) : Sep M H0 G0 G' H' O := by
  have S1 := S.same e
  refine ⟨S1.base, S1.pm, sG, S.g0.trans eG, fun b hb gb => ?_, fun a ha => ⟨hn a (S.ow a ha).2.1 (S.ow a ha).1, (S1.ow a ha).2⟩⟩
  refine hn b (fun z => ?_) (S.gn b hb gb)
  exact hb (S.free z)
theorem Sep.hid (S : Sep M H0 G0 G H O) {L : List Addr} (h : ∀ a ∈ L, a ∈ O) : Same G (hideL L H) := fun b o e => by
  rw [hideL_out fun z => by
    have := (S.ow b (h b z)).1
    rw [e] at this
    cases this]
  exact S.sG b o e
end
end Vx

namespace Vx
open PySem PySem.Spec PyProof.Rows L2
/-! ### lists of plain things (f : V.int, V.bl, V.str) -/
section
variable {α : Type} {f : α → V} {H : Hp} {p : Addr}
theorem cat_map {xs ys : List α} (h : H p = some (.lst (xs.map f ++ ys.map f))) : H p = some (.lst ((xs ++ ys).map f)) := by
  rw [List.map_append]; exact h
theorem snoc_map {xs : List α} {y : α} (h : H p = some (.lst (xs.map f ++ [f y]))) : H p = some (.lst ((xs ++ [y]).map f)) := by
  rw [List.map_append]; exact h
def repL (xs : List α) (k : Int) : List α := (List.replicate k.toNat xs).flatten
theorem rep_map {xs : List α} {k : Int} (h : H p = some (.lst (List.replicate k.toNat (xs.map f)).flatten)) : H p = some (.lst ((repL xs k).map f)) := by
  rw [h]
  unfold repL
  rw [List.map_flatten, List.map_replicate]
def cutL (xs : List α) (lo hi : Option Int) : List α := (xs.drop (HT.sIx xs.length 0 lo)).take (HT.sIx xs.length xs.length hi - HT.sIx xs.length 0 lo)
theorem cut_map {xs : List α} {lo hi : Option Int} (h : H p = some (.lst (cutV (xs.map f) lo hi))) : H p = some (.lst ((cutL xs lo hi).map f)) := by
  rw [h]
  unfold cutV cutL
  rw [List.length_map, List.map_take, List.map_drop]
theorem cast_map {xs ys : List α} (h : H p = some (.lst (xs.map f))) (e : xs = ys) : H p = some (.lst (ys.map f)) := e ▸ h
theorem drop_map {xs : List α} (h : H p = some (.lst (xs.map f).dropLast)) : H p = some (.lst (xs.dropLast.map f)) := by
  rw [h, List.map_dropLast]
theorem ixN_some {n : Nat} {k : Int} (h : -(n : Int) ≤ k ∧ k < n) : ∃ j, ixN n k = some j ∧ j < n := by
  unfold ixN
  by_cases h0 : 0 ≤ k
  · exact ⟨k.toNat, by rw [if_pos h0, if_pos h.2], by omega⟩
  · exact ⟨(k + n).toNat, by rw [if_neg h0, if_pos h.1], by omega⟩
def itD [Inhabited α] (xs : List α) (k : Int) : α := (atI xs k).getD default
theorem atI_map [Inhabited α] {xs : List α} {k : Int} (h : -(xs.length : Int) ≤ k ∧ k < xs.length) : atI (xs.map f) k = some (f (itD xs k)) := by
  obtain ⟨j, e, hj⟩ := ixN_some h
  unfold itD atI
  rw [List.length_map, e]
  show (xs.map f)[j]? = some (f ((xs[j]?).getD default))
  rw [List.getElem?_map, List.getElem?_eq_getElem hj] <;> rfl
def setL (xs : List α) (k : Int) (y : α) : List α := xs.set ((ixN xs.length k).getD 0) y
theorem ixN_map {xs : List α} {k : Int} (h : -(xs.length : Int) ≤ k ∧ k < xs.length) : ixN (xs.map f).length k = some ((ixN xs.length k).getD 0) := by
  obtain ⟨j, e, hj⟩ := ixN_some h
  rw [List.length_map, e] <;> rfl
theorem set_map {xs : List α} {k : Int} {y : α} (h : H p = some (.lst ((xs.map f).set ((ixN xs.length k).getD 0) (f y)))) : H p = some (.lst ((setL xs k y).map f)) := by
  rw [h]
  unfold setL
  rw [List.map_set]
def lastD [Inhabited α] (xs : List α) : α := xs.getLastD default
theorem pop_map [Inhabited α] {xs : List α} (h : xs ≠ []) : (xs.map f)[(xs.map f).length - 1]? = some (f (lastD xs)) := by
  rw [← List.getLast?_eq_getElem?, List.getLast?_map]
  unfold lastD
  cases e : xs.getLast? with
  | none => exact absurd (List.getLast?_eq_none_iff.mp e) h
  | some y =>
    rw [List.getLastD_eq_getLast?, e] <;> rfl
end
/-! ### lists of data -/
section
variable {α β : Type} {f : α → PyData} {g : β → PyData} {G : Hp} {vs ws : List V} {xs ys : List α}
theorem app_map (a : RpAll G vs (xs.map f)) (b : RpAll G ws (ys.map f)) : RpAll G (vs ++ ws) ((xs ++ ys).map f) := by
  rw [List.map_append]; exact a.append b
theorem one_map {v : V} {y : α} (a : RpAll G vs (xs.map f)) (b : Rp G v (f y)) : RpAll G (vs ++ [v]) ((xs ++ [y]).map f) := by
  rw [List.map_append]; exact a.append (.one b)
theorem rep_all (k : Int) (a : RpAll G vs (xs.map f)) : RpAll G (List.replicate k.toNat vs).flatten ((repL xs k).map f) := by
  unfold repL
  rw [List.map_flatten, List.map_replicate]
  exact a.rep _
theorem cut_all (lo hi : Option Int) (a : RpAll G vs (xs.map f)) : RpAll G (cutV vs lo hi) ((cutL xs lo hi).map f) := by
  unfold cutV cutL
  rw [a.len, List.length_map, List.map_take, List.map_drop]
  exact (a.drop _).take _
theorem rp_cast {v : V} {d e : PyData} (r : Rp G v d) (h : d = e) : Rp G v e := h ▸ r
theorem comp_listD {i : Nat} {x : α} {y : β} {v : V} {h : α → β} (hi : xs[i]? = some x) (a : RpAll G vs (((xs.take i).map h).map g)) (r : Rp G v (g y)) (e : h x = y) : RpAll G (vs ++ [v]) (((xs.take (i + 1)).map h).map g) := by
  rw [take_succ_get hi, List.map_append, List.map_append]
  exact a.append (.one (e ▸ r))
theorem comp_rangeD {i : Nat} {y : β} {v : V} {h : Nat → β} (a : RpAll G vs (((List.range i).map h).map g)) (r : Rp G v (g y)) (e : h i = y) : RpAll G (vs ++ [v]) (((List.range (i + 1)).map h).map g) := by
  rw [List.range_succ, List.map_append, List.map_append]
  exact a.append (.one (e ▸ r))
theorem comp_doneD {n : Nat} {h : List α → List β} (hl : n = xs.length) (a : RpAll G vs ((h (xs.take n)).map g)) : RpAll G vs ((h xs).map g) := by
  rw [hl, List.take_length] at a
  exact a
theorem comp_listFD {i : Nat} {x : α} {y : β} {v : V} {h : α → β} {q : α → Bool} (hi : xs[i]? = some x) (hq : q x = true) (a : RpAll G vs ((((xs.take i).filter q).map h).map g)) (r : Rp G v (g y)) (e : h x = y) : RpAll G (vs ++ [v]) ((((xs.take (i + 1)).filter q).map h).map g) := by
  rw [take_succ_get hi, List.filter_append, List.filter_cons, if_pos hq, List.map_append, List.map_append]
  exact a.append (.one (e ▸ r))
theorem skip_listD {i : Nat} {x : α} {h : α → β} {q : α → Bool} (hi : xs[i]? = some x) (hq : q x = false) (a : RpAll G vs ((((xs.take i).filter q).map h).map g)) : RpAll G vs ((((xs.take (i + 1)).filter q).map h).map g) := by
  rw [take_succ_get hi, List.filter_append, List.filter_cons, if_neg (by rw [hq]; decide), List.filter_nil, List.append_nil]
  exact a
end
section
variable {α β : Type} {f : β → V} {H : Hp} {D : Addr} {xs : List α}
theorem compM_list {i : Nat} {x : α} {y : β} {h : α → β} (hi : xs[i]? = some x) (a : H D = some (.lst (((xs.take i).map h).map f ++ [f y]))) (e : h x = y) : H D = some (.lst (((xs.take (i + 1)).map h).map f)) := by
  rw [a, ← e, take_succ_get hi, List.map_append, List.map_append] <;> rfl
theorem compM_range {i : Nat} {y : β} {h : Nat → β} (a : H D = some (.lst (((List.range i).map h).map f ++ [f y]))) (e : h i = y) : H D = some (.lst (((List.range (i + 1)).map h).map f)) := by
  rw [a, ← e, List.range_succ, List.map_append, List.map_append] <;> rfl
theorem compM_done {n : Nat} {h : List α → List β} (hl : n = xs.length) (a : H D = some (.lst ((h (xs.take n)).map f))) : H D = some (.lst ((h xs).map f)) := by
  rw [hl, List.take_length] at a
  exact a
theorem compM_listF {i : Nat} {x : α} {y : β} {h : α → β} {q : α → Bool} (hi : xs[i]? = some x) (hq : q x = true) (a : H D = some (.lst ((((xs.take i).filter q).map h).map f ++ [f y]))) (e : h x = y) : H D = some (.lst ((((xs.take (i + 1)).filter q).map h).map f)) := by
  rw [a, ← e, take_succ_get hi, List.filter_append, List.filter_cons, if_pos hq, List.map_append, List.map_append] <;> rfl
theorem skipM_list {i : Nat} {x : α} {h : α → β} {q : α → Bool} (hi : xs[i]? = some x) (hq : q x = false) (a : H D = some (.lst ((((xs.take i).filter q).map h).map f))) : H D = some (.lst ((((xs.take (i + 1)).filter q).map h).map f)) := by
  rw [a, take_succ_get hi, List.filter_append, List.filter_cons, if_neg (by rw [hq]; decide), List.filter_nil, List.append_nil]
theorem compM_rangeF {i : Nat} {y : β} {h : Nat → β} {q : Nat → Bool} (hq : q i = true) (a : H D = some (.lst ((((List.range i).filter q).map h).map f ++ [f y]))) (e : h i = y) : H D = some (.lst ((((List.range (i + 1)).filter q).map h).map f)) := by
  rw [a, ← e, List.range_succ, List.filter_append, List.filter_cons, if_pos hq, List.map_append, List.map_append] <;> rfl
theorem skipM_range {i : Nat} {h : Nat → β} {q : Nat → Bool} (hq : q i = false) (a : H D = some (.lst ((((List.range i).filter q).map h).map f))) : H D = some (.lst ((((List.range (i + 1)).filter q).map h).map f)) := by
  rw [a, List.range_succ, List.filter_append, List.filter_cons, if_neg (by rw [hq]; decide), List.filter_nil, List.append_nil]
end
/-! ### more rules -/
section
variable {X : Cx} {K : PySem.W.Frag}
theorem ix_tupK (hK : X.K = K := by rfl) : IxR X (rIxT K) := hK ▸ ix_tup
def rLenLK (K : PySem.W.Frag) : List V → Hp → VK → Prop := fun xs H Q => ∃ (p : Addr) (vs : List V) (n : Nat), xs = [.ref p] ∧ SqL K H p vs ∧ vs.length = n ∧ Q (.int (n : Int)) H
theorem call_lenLK (hK : X.K = K := by rfl) : CallR X (.builtin "len") (rLenLK K) := by
  subst hK
  intro pins s σ H xs us Q I r h
  obtain ⟨p, vs, n, rfl, hs, hn, q⟩ := h
  exact call_len_seq pins s σ H _ us Q I r ⟨p, _, rfl, Or.inl hs, by rw [hn]; exact q⟩
def rListLK (K : PySem.W.Frag) : List V → Hp → VK → Prop := fun xs H Q => ∃ (p : Addr) (vs : List V), xs = [.ref p] ∧ SqL K H p vs ∧ ∀ l, H l = none → Q (.ref l) (upd H l (.lst vs))
theorem call_listLK (hK : X.K = K := by rfl) : CallR X (.type "list") (rListLK K) := by
  subst hK
  intro pins s σ H xs us Q I r h
  obtain ⟨p, vs, rfl, hs, q⟩ := h
  exact call_list_of pins s σ H _ us Q I r ⟨p, _, rfl, Or.inl hs, q⟩
theorem cr_anyK (hc : X.calm = true) (hK : X.K = K := by rfl) : CallR X (.builtin "any") (rAny K) := hK ▸ cr_any hc
theorem cr_allK (hc : X.calm = true) (hK : X.K = K := by rfl) : CallR X (.builtin "all") (rAll K) := hK ▸ cr_all hc
theorem pi_tupK {tg l : Expr} {tl : TE} (hl : PE X l tl) (hK : X.K = K := by rfl) : PI X tg l (iTup K tl) := hK ▸ pi_tup hl
theorem pip {op : Operator} {r : R2} (h : OpR X (inplaceOp op) r) : PIp X op r := fun pins s σ H x y v u Q I rx ry q => h pins s σ H x y v u Q I rx ry q
/-- an item at a place from 0 on, by itself (ahead of o[i] op= e) -/
def rIxP (K : PySem.W.Frag) : R2 := fun x y H Q => ∃ (p : Addr) (xs : List V) (k : Int) (v : V), x = .ref p ∧ y = .int k ∧ SqL K H p xs ∧ 0 ≤ k ∧ k < 2 ^ 62 ∧ atI xs k = some v ∧ Q v H
theorem pget_list (hK : X.K = K := by rfl) : PGet X (rIxP K) := by
  subst hK
  intro pins s σ H o i ov iv Q I ro ri h
  obtain ⟨p, xs, k, v, rfl, rfl, hq, h0, h62, ha, q⟩ := h
  cases ro
  obtain ⟨t, rfl⟩ := ri
  obtain ⟨its, r, pl, hz⟩ := I.list hq
  obtain ⟨j, h1, h2, h3, h4, h5⟩ := atI_get ha
  obtain ⟨w, ew, rw'⟩ := r.get h2
  have hj : k.toNat = j := by
    rw [seqIndex_of h0 h5] at h1
    exact Option.some.inj h1
  exact getItem_listL pl.isList h0 (by omega) (by rw [hj]; simpa using ew) ⟨v, H, I, rw', q⟩
theorem tru_map {α : Type} [DecidableEq α] {f : α → V} {xs : List α} : (!decide (xs = [])) = !(xs.map f).isEmpty := by
  cases xs <;> simp
end
end Vx

namespace Vx
open PySem PySem.Spec PyProof.Rows L2
/-! ### objects -/
section
variable {M : List Addr} {H0 G0 G H H' : Hp} {O : List Addr} {p m : Addr} {o : HO}
theorem gen_obj {x dx : Addr} {o1 o2 : HO} (nx : H x = none) (nd : H dx = none) (ne : dx ≠ x) (h : upd (upd H dx o1) x o2 = H') : Same H H' ∧ H' x = some o2 := by
  subst h
  exact ⟨fun b u e => by rw [upd_ne (ne_of_none e nx), upd_ne (ne_of_none e nd)]; exact e, upd_same⟩
theorem sameX_of {m : Addr} (x : SameXs [m] H H') : SameX m H H' := fun b o e n => x b o e (by simpa using n)
theorem g_ne {a b : Addr} (h : G a = some o) (S : Sep M H0 G0 G H O) (hb : b ∈ O) : a ≠ b := fun z => by
  have := (S.ow b hb).1
  rw [← z, h] at this
  cases this
/-- an object whose making has laid some lists -/
theorem Sep.mutnew (S : Sep M H0 G0 G H O) {L : List Addr} (x : SameXs L H H') (hL : ∀ a ∈ L, a ∈ O) (hs : ∀ a ∈ L, H' a ≠ none) (hn : H p = none) (hp : H' p ≠ none) (h0 : H0 p = none) : Sep M H0 G0 G H' (p :: O) := by
  have S1 := S.mut x hL hs
  refine ⟨S1.base, S1.pm, S1.sG, S1.g0, S1.gn, all_cons ⟨S.gfree hn, hp, .inr h0⟩ S1.ow⟩
theorem Sep.init (S : Sep M H0 G0 G H O) (x : SameX m H H') (hm : m ∈ O) (h : H' m = some o) (L : List Addr) (hL : ∀ a ∈ L, H a = none ∧ H' a ≠ none ∧ H0 a = none) : Sep M H0 G0 G H' (L ++ O) := by
  have S1 := S.mut1 x hm h
  refine ⟨S1.base, S1.pm, S1.sG, S1.g0, S1.gn, fun a ha => ?_⟩
  rcases List.mem_append.mp ha with z | z
  · obtain ⟨h1, h2, h3⟩ := hL a z
    exact ⟨S.gfree h1, h2, .inr h3⟩
  · exact S1.ow a z
end
section
variable {P : Program} {w : World} {K : PySem.W.Frag} {mg : Str → Option Value} {base : Heap}
structure MethIn (K : PySem.W.Frag) (C : Addr) (q m : Str) (st : Stmt) (ps : List Str) : Prop where
  ex : ∃ (f : Addr) (fd : FuncData), Fun K m q st f fd ∧ Meth K C m f ∧ Binds K fd ps []
structure PropIn (K : PySem.W.Frag) (C : Addr) (q m : Str) (st : Stmt) (ps : List Str) : Prop where
  ex : ∃ (r f : Addr) (fd : FuncData), Fun K m q st f fd ∧ PropOf K C m r f ∧ Binds K fd ps []
structure InitIn (K : PySem.W.Frag) (mg : Str → Option Value) (C : Addr) (cn q : Str) (st : Stmt) (ps : List Str) : Prop where
  ex : ∃ (f : Addr) (fd : FuncData), Fun K "__init__" q st f fd ∧ Mk K C f ∧ mg cn = some (.ref C) ∧ Binds K fd ps []
structure MetC (P : Program) (w : World) (K : PySem.W.Frag) (mg : Str → Option Value) (base : Heap) (k : Nat) (C : Addr) (m : Str) (sp : Sp) : Prop where
  ex : ∃ (f : Addr) (fd : FuncData) (ps : List Str), Cls K C ∧ Meth K C m f ∧ FnOk P w K mg base CX0 k f fd ps sp ∧ Binds K fd ps []
structure PropC (P : Program) (w : World) (K : PySem.W.Frag) (mg : Str → Option Value) (base : Heap) (k : Nat) (C : Addr) (m : Str) (sp : Sp) : Prop where
  ex : ∃ (q f : Addr) (fd : FuncData) (ps : List Str), Cls K C ∧ PropOf K C m q f ∧ FnOk P w K mg base CX0 k f fd ps sp ∧ Binds K fd ps []
structure MakC (P : Program) (w : World) (K : PySem.W.Frag) (mg : Str → Option Value) (base : Heap) (k : Nat) (cn : Str) (C : Addr) (sp : Sp) : Prop where
  ex : ∃ (f : Addr) (fd : FuncData) (ps : List Str), Mk K C f ∧ FnOk P w K mg base CX0 k f fd ps sp ∧ mg cn = some (.ref C) ∧ Binds K fd ps []
abbrev Body (P : Program) (w : World) (K : PySem.W.Frag) (mg : Str → Option Value) (base : Heap) (x : Str) (st : Stmt) (N : List Str) (k : Nat) (sp : Sp) : Prop :=
  ∀ (f : Addr) (cdv : Value) (A : Around) (outer : List Env) (s : Shared) (H : Hp) (vs : List V) (Q : VK) (E : XK), Room k (A.deeper (envOfC x (defScope st) s.heap.objs.size f cdv)) → sp vs H Q E →
    ∃ t, PSs (cxOf CX0 P w K mg base N x (defScope st) f cdv A outer s H E).nox (defBody st) t ∧ t { nx := fun _ H' => Q .non H', rt := Q } (start N vs) H
theorem MethIn.ok {C : Addr} {q m : Str} {st : Stmt} {N ps : List Str} {k : Nat} {sp : Sp} (D : MethIn K C q m st ps) (c : Cls K C) (S : FnScope N ps (defScope st)) (len : ∀ vs H Q E, sp vs H Q E → vs.length = ps.length)
    (hbody : Body P w K mg base q st N k sp) : MetC P w K mg base (k + 1) C m sp := by
  obtain ⟨f, fd, F, me, b⟩ := D.ex
  exact ⟨f, fd, ps, c, me, F.ok S len (fun cdv A outer s H vs Q E hr h => hbody f cdv A outer s H vs Q E hr h), b⟩
theorem PropIn.ok {C : Addr} {q m : Str} {st : Stmt} {N ps : List Str} {k : Nat} {sp : Sp} (D : PropIn K C q m st ps) (c : Cls K C) (S : FnScope N ps (defScope st)) (len : ∀ vs H Q E, sp vs H Q E → vs.length = ps.length)
    (hbody : Body P w K mg base q st N k sp) : PropC P w K mg base (k + 1) C m sp := by
  obtain ⟨r, f, fd, F, me, b⟩ := D.ex
  exact ⟨r, f, fd, ps, c, me, F.ok S len (fun cdv A outer s H vs Q E hr h => hbody f cdv A outer s H vs Q E hr h), b⟩
theorem InitIn.ok {C : Addr} {cn q : Str} {st : Stmt} {N ps : List Str} {k : Nat} {sp : Sp} (D : InitIn K mg C cn q st ps) (S : FnScope N ps (defScope st)) (len : ∀ vs H Q E, sp vs H Q E → vs.length = ps.length)
    (hbody : Body P w K mg base q st N k sp) : MakC P w K mg base (k + 1) cn C sp := by
  obtain ⟨f, fd, F, me, hm, b⟩ := D.ex
  exact ⟨f, fd, ps, me, F.ok S len (fun cdv A outer s H vs Q E hr h => hbody f cdv A outer s H vs Q E hr h), hm, b⟩
end
section
variable {X : Cx} {k j : Nat} {C : Addr} {x m : Str} {sp : Sp} {p pos apos : Pos} {e o : Expr} {es : List Expr} {ta : TE} {t : TA}
theorem vx_call0 (c : Cal X.prog X.w X.K X.mg X.base k x sp) (hr : Room j X.A) (hk : k ≤ j) (hg : Gl X x) (hdb : (x == ("__debug__" : Str)) = false := by decide) : PE X (.Call (.Name x p) [] [] pos) (tCall sp [] E0 tNil) := by
  obtain ⟨f, fd, ps, F, hm, kp, b⟩ := c.ex
  exact pe_call0 F (hr.mono hk) hg hm kp b .nil pass0 hdb
theorem vx_make (c : MakC X.prog X.w X.K X.mg X.base k x C sp) (hr : Room j X.A) (hk : k + 1 ≤ j) (hg : Gl X x) (ha : PA X (e :: es) t)
    (hdb : (x == ("__debug__" : Str)) = false := by decide) (he : starEach (e :: es) X.env = (false, eval e X.env) :: starEach es X.env := by rfl) (hpl : (backTo pos (starEach es X.env)).any (·.1) = false := by rfl) :
    PE X (.Call (.Name x p) (e :: es) [] pos) (tMake C sp [] E0 t) := by
  obtain ⟨f, fd, ps, M, F, hm, b⟩ := c.ex
  exact pe_make M F (hr.mono hk) hg hm b .nil pass0 ha hdb he hpl
theorem vx_make0 (c : MakC X.prog X.w X.K X.mg X.base k x C sp) (hr : Room j X.A) (hk : k + 1 ≤ j) (hg : Gl X x) (hdb : (x == ("__debug__" : Str)) = false := by decide) :
    PE X (.Call (.Name x p) [] [] pos) (tMake C sp [] E0 tNil) := by
  obtain ⟨f, fd, ps, M, F, hm, b⟩ := c.ex
  exact pe_make0 M F (hr.mono hk) hg hm b .nil pass0 hdb
theorem vx_meth {pl : Sem Bool} (c : MetC X.prog X.w X.K X.mg X.base k C m sp) (hr : Room j X.A) (hk : k ≤ j) (he : PE X o ta) (ha : PA X (e :: es) t)
    (hst : starEach (e :: es) X.env = (false, eval e X.env) :: starEach es X.env := by rfl) (hpl : (backTo pos (starEach es X.env)).any (·.1) = false := by rfl)
    (ht : eval (.Call (.Attribute o m apos) (e :: es) [] pos) X.env = (do
      let ov ← eval o X.env
      standAt apos.atName
      let (f, first) ← holding [ov] (getMethod ov m pl)
      callWith pos f first (backTo pos (starEach (e :: es) X.env)) (backToKw pos (keywordEach [] X.env))) := by rfl) :
    PE X (.Call (.Attribute o m apos) (e :: es) [] pos) (tMeth C m sp [] E0 ta t) := by
  obtain ⟨f, fd, ps, hc, hm, F, b⟩ := c.ex
  exact pe_meth he hc hm F (hr.mono hk) b .nil pass0 ha hst hpl ht
theorem vx_meth0 {pl : Sem Bool} (c : MetC X.prog X.w X.K X.mg X.base k C m sp) (hr : Room j X.A) (hk : k ≤ j) (he : PE X o ta)
    (ht : eval (.Call (.Attribute o m apos) [] [] pos) X.env = (do
      let ov ← eval o X.env
      standAt apos.atName
      let (f, first) ← holding [ov] (getMethod ov m pl)
      callWith pos f first (backTo pos (starEach [] X.env)) (backToKw pos (keywordEach [] X.env))) := by rfl) :
    PE X (.Call (.Attribute o m apos) [] [] pos) (tMeth C m sp [] E0 ta tNil) := by
  obtain ⟨f, fd, ps, hc, hm, F, b⟩ := c.ex
  exact pe_meth0 he hc hm F (hr.mono hk) b .nil pass0 ht
theorem vx_prop (c : PropC X.prog X.w X.K X.mg X.base k C m sp) (hr : Room j X.A) (hk : k + 1 ≤ j) (he : PE X o ta) (hab : attributeBase o m X.env (eval o X.env) = eval o X.env) : PE X (.Attribute o m pos) (tProp C sp [] E0 ta) := by
  obtain ⟨q, f, fd, ps, hc, hp, F, b⟩ := c.ex
  exact pe_prop he hc hp F (hr.mono hk) b .nil pass0 hab
end
theorem iteBNT {b : Bool} {A B : Prop} (h : b = false) (k : A) : if (!b) = true then A else B := by rw [h]; exact iteT k
theorem iteNN {b : Bool} {A B : Prop} (h : if b = true then A else B) : if (!!b) = true then A else B := by rw [Bool.not_not]; exact h
theorem iteBNF {b : Bool} {A B : Prop} (h : b = true) (k : B) : if (!b) = true then A else B := by rw [h]; exact iteF k
theorem shl_side {i j : Int} (h0 : 0 ≤ j) (h1 : j ≤ 4096) (h2 : -(2 ^ 4096) < i) (h3 : i < 2 ^ 4096) : CShl i j := by
  obtain ⟨k, rfl⟩ := Int.eq_ofNat_of_zero_le h0
  exact shl_ok (n := 4096) (by omega) (by omega)
end Vx

namespace Vx
open PySem PySem.Spec PyProof.Rows L2
section
variable {X : Cx} {K : PySem.W.Frag}
theorem fldK {e : Expr} {f : Str} {pos : Pos} {ta : TE} (he : PE X e ta) (hb : attributeBase e f X.env (eval e X.env) = eval e X.env := by rfl) (hK : X.K = K := by rfl) : PE X (.Attribute e f pos) (tFld K ta f) := hK ▸ pe_fld he hb
theorem pg_tupK {es : List Expr} {k : Nat} {t : TGs} {n : Nat} {pos : Pos} (h : PGs X es t) (hc : X.calm = true := by rfl)
    (hn : (assignEach es X.env).length = n := by rfl) (hst : (assignEach es X.env).findIdx? (·.1) = none := by rfl) (hK : X.K = K := by rfl) : PG X (.Tuple es k pos) (gTup K n t) := hK ▸ pg_tup hc h hn hst
end
end Vx

namespace Vx
open PySem PySem.Spec PyProof.Rows L2
section
variable {α β : Type} {f : α → PyData} {g : β → PyData} {fv : α → V} {gv : β → V} {G : Hp} {vs ws : List V} {xs : List α} {ys : List β}
theorem big1 {n : Nat} (h : n ≤ 1000000) : n ≤ sizeLine := smallE h
theorem cat_len (a : RpAll G vs (xs.map f)) (b : RpAll G ws (ys.map g)) (h : xs.length + ys.length ≤ 1000000) : vs.length + ws.length ≤ sizeLine := by
  rw [a.len, b.len, List.length_map, List.length_map]; exact smallE h
theorem cat_lenM (h : xs.length + ys.length ≤ 1000000) : (xs.map fv).length + (ys.map gv).length ≤ sizeLine := by
  rw [List.length_map, List.length_map]; exact smallE h
theorem rep_len {k : Nat} (a : RpAll G vs (xs.map f)) (h : xs.length * k ≤ 1000000) : vs.length * k ≤ sizeLine := by
  rw [a.len, List.length_map]; exact smallE h
theorem rep_lenM {k : Nat} (h : xs.length * k ≤ 1000000) : (xs.map fv).length * k ≤ sizeLine := by
  rw [List.length_map]; exact smallE h
theorem app_len (a : RpAll G vs (xs.map f)) (h : xs.length ≤ 1000000) : vs.length < sizeLine := by
  rw [a.len, List.length_map]; exact small h
theorem app_lenM (h : xs.length ≤ 1000000) : (xs.map fv).length < sizeLine := by
  rw [List.length_map]; exact small h
theorem cutL_len {α : Type} (xs : List α) (lo hi : Option Int) : (cutL xs lo hi).length ≤ xs.length := by
  unfold cutL
  rw [List.length_take, List.length_drop]
  omega
theorem repL_len {α : Type} (xs : List α) (k : Int) : (repL xs k).length = k.toNat * xs.length := by
  unfold repL
  simp
end
end Vx
/-! # promises of defs that know that nothing is being shown (so that repr may be called) -/
namespace Vx
open PySem PySem.Spec PyProof.Rows L2
structure RoomG (k : Nat) (A : Around) : Prop extends Room k A where
  gd : A.guards = some []
theorem RoomG.low {j k : Nat} {A : Around} (r : RoomG k A) (h : j ≤ k) : RoomG j A := ⟨r.toRoom.mono h, r.gd⟩
theorem RoomG.one {k : Nat} {A : Around} (r : RoomG (k + 1) A) : RoomG k A.in1 := ⟨r.toRoom.in1, r.gd⟩
theorem make_gd {A : Around} (C : Addr) (us : List Value) (kw : List (Str × Value)) (h : A.guards = some []) : (A.under (.builtin "type.__call__" ⟨.ref C :: us, kw⟩)).guards = some [] := by
  obtain ⟨hd, d, fr, gs, u⟩ := A
  subst h
  simp [Around.under, Code.guards, Code.isGuard, guardIds, pushGuards]
theorem RoomG.made {k : Nat} {A : Around} (r : RoomG (k + 1) A) (C : Addr) (us : List Value) (kw : List (Str × Value)) : RoomG k (A.under (.builtin "type.__call__" ⟨.ref C :: us, kw⟩)) := ⟨r.toRoom.make C us kw, make_gd C us kw r.gd⟩
structure FnG (P : Program) (w : World) (K : PySem.W.Frag) (mg : Str → Option Value) (base : Heap) (cx : CXT) (k : Nat) (f : Addr) (fd : FuncData) (ps : List Str) (sp : Sp) : Prop where
  len : ∀ vs H Q E, sp vs H Q E → vs.length = ps.length
  run : ∀ (A : Around) (outer : List Env) (s : Shared) (H : Hp) (args : Args) (us : List Value) (vs : List V) (Q : VK) (E : XK), RoomG k A → Env0 P w K mg base A outer s H → BindsTo s fd args (ps.zip us) → Vals vs us → sp vs H Q E → codeAny (model P w) A (.call (.ref f) args) (CR cx outer P w H s Q E) s
section
variable {P : Program} {w : World} {K : PySem.W.Frag} {mg : Str → Option Value} {base : Heap} {cx : CXT} {j k : Nat} {f : Addr} {fd : FuncData} {ps : List Str} {sp sp' : Sp}
theorem FnG.imp (F : FnG P w K mg base cx k f fd ps sp) (h : ∀ vs H Q E, sp' vs H Q E → sp vs H Q E) : FnG P w K mg base cx k f fd ps sp' := ⟨fun vs H Q E q => F.len vs H Q E (h vs H Q E q), fun A o s H a us vs Q E r e b v q => F.run A o s H a us vs Q E r e b v (h vs H Q E q)⟩
/-- the body's promise is the def's -/
theorem FnG.body {x qual : Str} {params : Arguments} {body : List Stmt} {scope : Scope} {dvs : List V} {kws : List (Str × V)} {N : List Str} (F : FunD K x qual params body scope dvs kws f fd) (S : FnScope N ps scope) (len : ∀ vs H Q E, sp vs H Q E → vs.length = ps.length)
    (hb : ∀ (cdv : Value) (A : Around) (outer : List Env) (s : Shared) (H : Hp) (vs : List V) (Q : VK) (E : XK), RoomG k (A.deeper (envOfC qual scope s.heap.objs.size f cdv)) → sp vs H Q E →
      ∃ t, PSs (cxOf cx P w K mg base N qual scope f cdv A outer s H E) body t ∧ t { nx := fun _ H' => Q .non H', rt := Q } (start N vs) H) : FnG P w K mg base cx (k + 1) f fd ps sp := by
  obtain ⟨oc, od, dV, kV, doc, pm, an, cdv, ct, osl, rfl, lk, code, _, _⟩ := F.ex
  constructor
  · exact len
  · intro A outer s H args us vs Q E room env binds vals prom
    have nvs := len vs H Q E prom
    have kin : K.In s.heap := env.mod.kin.keeps fun b o q => (env.bs b o q).1
    have nolim : s.heap.NoLimit := env.mod.nolimit.keeps fun b o q => (env.bs b o q).1
    have kinds : ∀ q ∈ ps.zip us, scope.names.lookup q.1 = some .local ∨ (scope.names.lookup q.1 = some .cell ∧ ((cellsFrom (s.heap.objs.size + 1) scope.names []).lookup q.1).isSome = true) := by
      rintro ⟨n, v⟩ hq
      cases S.par n (List.of_mem_zip hq).1 with
      | inl z => exact .inl z
      | inr z => exact .inr ⟨z, PySem.W.cellsFrom_some _ _ _ (.inl z)⟩
    refine codeAny_call_function room.toRoom.depth (kin _ _ lk) rfl S.co S.gen rfl (PySem.W.codeRec_of kin code) (binds _ _ _ _ ?_)
    refine wpAny_newFunctionEnv_cells S.kind kinds ?_
    rintro _ rfl s1 made
    refine ⟨nolim.keeps made.toInCall.keep, codeAny_func ?_⟩
    obtain ⟨t, pss, start_⟩ := hb cdv A outer s H vs Q E ⟨room.toRoom.deeper _, room.gd⟩ prom
    have inv := inv_start (CX := cx) (E := E) S room.hd env nvs vals made
    have close : ∀ {τ : L2.St} {H2 : Hp} {v : V} {u : Value} {s2 : Shared}, Inv (cxOf cx P w K mg base N qual scope f cdv A outer s H E) [] τ H2 s2 → RelV v u → Q v H2 → CE outer P w H s Q u s2 := fun inv2 rel q => ⟨_, _, inv2.os, inv2.bare, inv2.base, inv2.hok, rel, q⟩
    refine wpAny_mono (pss.run [] s1 (start N vs) H _ inv start_) ?_ fun _ _ z => z
    intro flow s2 out
    cases flow with
    | next =>
      obtain ⟨τ, H2, inv2, q⟩ := out
      exact close (v := .non) (u := .none) inv2 rfl q
    | ret u =>
      obtain ⟨v, τ, H2, inv2, rel, q⟩ := out
      exact close inv2 rel q
    | brk =>
      obtain ⟨_, _, _, q⟩ := out
      exact q.elim
    | cont =>
      obtain ⟨_, _, _, q⟩ := out
      exact q.elim
/-- the same of a body that nothing leaves -/
theorem FnG.bodyN {x qual : Str} {params : Arguments} {body : List Stmt} {scope : Scope} {dvs : List V} {kws : List (Str × V)} {N : List Str} (F : FunD K x qual params body scope dvs kws f fd) (S : FnScope N ps scope) (len : ∀ vs H Q E, sp vs H Q E → vs.length = ps.length)
    (hb : ∀ (cdv : Value) (A : Around) (outer : List Env) (s : Shared) (H : Hp) (vs : List V) (Q : VK) (E : XK), RoomG k (A.deeper (envOfC qual scope s.heap.objs.size f cdv)) → sp vs H Q E →
      ∃ t, PSs (cxOf CX0 P w K mg base N qual scope f cdv A outer s H E).nox body t ∧ t { nx := fun _ H' => Q .non H', rt := Q } (start N vs) H) : FnG P w K mg base CX0 (k + 1) f fd ps sp :=
  FnG.body F S len fun cdv A outer s H vs Q E r p => by
    obtain ⟨t, h, q⟩ := hb cdv A outer s H vs Q E r p
    exact ⟨t, h.nox, q⟩
end
/-- where a law's call begins: an abstract heap that tells the script at most -/
theorem law_start {P : Program} {w : World} {K : PySem.W.Frag} {mg mb : Str → Option Value} {a : Addr} {s : Shared} {vs : List Value} {ns : List Int} (kin : K.In s.heap) (top : s.heap.Ns mainGlobals mg) (blt : s.heap.Ns builtinsNs mb) (boot : ∀ y : Str, y ≠ "__name__" → mb y = bootBuiltins y)
    (lim : s.heap.NoLimit) (gens : s.gens = #[]) (script : s.heap.get? a = some { cls := .type "list", data := .seq vs.toArray }) (whole : IntsAre vs ns) (short : ns.length ≤ sizeLine) :
    ∃ (H : Hp) (base : Heap), SqL K H a (ns.map V.int) ∧ K.In base ∧ base.Ns mainGlobals mg ∧ Env0 P w K mg base callerA [] s H ∧
      ∀ (Z : V → Prop) (u : Value) (s2 : Shared), CE [] P w H s (fun v _ => Z v) u s2 → (∃ v, RelV v u ∧ Z v) ∧ OldK s.heap s2.heap ∧ s2.os = s.os ∧ AllBare s2.gens := by
  have rel := vals_ints whole
  have lenV := whole.length
  -- any H that tells no more than the script, and that only where the written part does not hold it, will do
  have fits : ∀ H : Hp, (∀ b, H b = none ∨ ∃ o xs, H b = some (.frz o (.lst xs))) → SqL K H a (ns.map V.int) → HOk P w H s.heap → (∀ b, b ≠ a → H b = none) → (∀ o, K.lookup a = some o → H a = none) →
      ∃ (H : Hp) (base : Heap), SqL K H a (ns.map V.int) ∧ K.In base ∧ base.Ns mainGlobals mg ∧ Env0 P w K mg base callerA [] s H ∧
        ∀ (Z : V → Prop) (u : Value) (s2 : Shared), CE [] P w H s (fun v _ => Z v) u s2 → (∃ v, RelV v u ∧ Z v) ∧ OldK s.heap s2.heap ∧ s2.os = s.os ∧ AllBare s2.gens := by
    intro H only seq ok else_ apart
    have dictFree : ∀ (b : Addr) (o : Obj) (es : Array DictEntry) (n : Nat), s.heap.get? b = some o → o.data = .dict es n → H b = none := by
      intro b o es n e d
      by_cases z : b = a
      · subst z
        rw [script] at e
        injection e with e
        subst e
        cases d
      · exact else_ b z
    have nsOf : ∀ {b : Addr} {m : Str → Option Value}, s.heap.Ns b m → (hidT s.heap H).Ns b m := by
      rintro b m ⟨o, es, n, e, d, r⟩
      exact ⟨o, es, n, hidT_get e (dictFree b o es n e d), d, r⟩
    have kinB : K.In (hidT s.heap H) := by
      intro b o e
      refine hidT_get (kin b o e) ?_
      by_cases z : b = a
      · subst z
        exact apart o e
      · exact else_ b z
    obtain ⟨mc, lim1, lim2⟩ := lim
    refine ⟨H, hidT s.heap H, seq, kinB, nsOf top, ⟨rfl, ⟨kinB, nsOf top, ⟨mb, nsOf blt, boot⟩, mc, nsOf lim1, lim2⟩, fun b o e => of_hidT e, Nat.le_of_eq (hidT_size _ _), trivial, fun b hb => (nomatch (show b ∈ ([] : List Addr) from hb)), ok, .of_eq gens⟩, ?_⟩
    rintro Z u s2 ⟨v, H2, os, bare, un, ok2, r, z⟩
    refine ⟨⟨v, r, z⟩, OldK.of_keep fun b o e => ?_, os, bare⟩
    rcases only b with n | ⟨o1, xs, n⟩
    · exact un.keep b o e n (fun y => nomatch (show b ∈ ([] : List Addr) from y)) (fun y => nomatch y)
    · obtain ⟨e1, _⟩ := ok b _ n
      obtain ⟨e2, _⟩ := ok2 b _ (un.frzs b o1 _ n)
      rw [e] at e1
      injection e1 with e1
      subst e1
      exact e2
  cases kl : K.lookup a with
  | some o =>
    have e := kin a o kl
    rw [script] at e
    injection e with e
    subst e
    exact fits (fun _ => none) (fun _ => .inl rfl) (.inr ⟨_, vs.toArray, _, kl, rfl, rfl, rfl, by rw [List.size_toArray, lenV]; exact short, by simpa using rel⟩) (fun _ _ z => nomatch z) (fun _ _ => rfl) fun _ _ => rfl
  | none =>
    refine fits (fun b => if b = a then some (.frz { cls := .type "list", data := .seq vs.toArray } (.lst (ns.map V.int))) else none) ?_ (.inl (.inr ⟨_, if_pos rfl⟩)) ?_ (fun b n => if_neg n) fun o z => ?_
    · intro b
      by_cases z : b = a
      · exact .inr ⟨_, _, if_pos z⟩
      · exact .inl (if_neg z)
    · intro b u q
      by_cases z : b = a
      · subst z
        have q := (if_pos rfl).symm.trans q
        injection q with q
        subst q
        exact ⟨script, by rw [List.length_map]; exact short, vs, _, rel, script⟩
      · have q := (if_neg z).symm.trans q
        cases q
    · rw [kl] at z
      cases z
/-- the goal that the head leaves, from the law's promise; the script's numbers have at most 2 ^ 20 bits -/
theorem walkG {l : PySem.W.OpenLaw} {n k : Nat} {q : Program} {loose : List Str} {XP : (Str → Option Value) → Heap → Prop} {YP : World → Heap → Prop} {d : DefRec} {K : Params → PySem.W.Frag} {x : Str} (hn : l.most = some n) (hn2 : n ≤ sizeLine) (hdf : d.params.defaults = []) (room : Room k callerA)
    (hY : ∀ (w : World) (h : Heap), YP w h → (K w.params).In h)
    (F : ∀ (w : World) (mg : Str → Option Value) (fa : Addr) (h : Heap), (K w.params).In h → h.Ns mainGlobals mg → mg d.name = some (.ref fa) →
      ∃ fd : FuncData, (∀ (s : Shared) (u : Value), BindsTo s fd ⟨[u], []⟩ [(x, u)]) ∧ ∀ base : Heap, (K w.params).In base → base.Ns mainGlobals mg → FnG l.prog w (K w.params) mg base CX0 k fa fd [x] (fun vs H Q _ => ∃ (a : Addr) (ns : List Int), vs = [.ref a] ∧ SqL (K w.params) H a (ns.map V.int) ∧ ns.length ≤ n ∧ ∀ H', Q (.bl true) H')) :
    PySem.W.WalkO q loose XP YP l.row.toRowW d [] (fun f vs => PySem.call f vs) := by
  refine Att.attach_call hn hdf ?_
  intro w s₀ s₁ mg mb fa o pm cd doc a vs ns G Y _ _ _ hmg script whole short gens
  have kin := hY w _ Y
  obtain ⟨fd, bind, prom⟩ := F w mg fa _ kin G.T.g hmg
  obtain ⟨H, base, seq, kinB, nsB, env, fin⟩ := law_start (P := l.prog) (w := w) kin G.T.g G.T.b G.T.builtins G.T.nolimit gens script whole (Nat.le_trans short hn2)
  refine codeAny_mono ((prom base kinB nsB).run callerA [] s₁ H ⟨[.ref a], []⟩ [.ref a] [.ref a] (fun v _ => v = .bl true) (fun _ _ _ => False) ⟨room, rfl⟩ env (bind s₁ (.ref a)) (.cons rfl .nil) ⟨a, ns, rfl, seq, short, fun _ => rfl⟩) ?_
  intro r s2 out
  cases r with
  | error e => exact out.elim
  | ok flow =>
    cases flow with
    | ret u =>
      obtain ⟨⟨v, rv, z⟩, h1, h2, h3⟩ := fin (fun v => v = .bl true) u s2 out
      subst z
      obtain rfl : u = Value.bool true := rv
      exact ⟨rfl, h1, h2, h3⟩
    | next => exact out.elim
    | brk => exact out.elim
    | cont => exact out.elim
end Vx
/-! # third part: what a def computes, as a plain function with refusals -/
namespace Vx
open PySem PySem.Spec PyProof.Rows L2
inductive Rx (α : Type) where
  | ok (a : α)
  | er (e : Nat)
  | bad
def Rx.bind {α β : Type} (m : Rx α) (f : α → Rx β) : Rx β :=
  match m with
  | .ok a => f a
  | .er e => .er e
  | .bad => .bad
/-- what is wanted of an outcome -/
@[irreducible] def cW {α : Type} (m : Rx α) (K : α → Prop) (E : Nat → Prop) : Prop :=
  match m with
  | .ok a => K a
  | .er e => E e
  | .bad => False
def grd {α : Type} (p : Prop) [Decidable p] (m : Rx α) : Rx α := if p then m else .bad
/-- within a comprehension nothing may be raised -/
def noEr {α : Type} (m : Rx α) : Rx α :=
  match m with
  | .ok a => .ok a
  | _ => .bad
/-- what the clause does not name may not come -/
def tryR {α β : Type} (m : Rx α) (cs : List Nat) (f : α → Rx β) (h : Nat → Rx β) : Rx β :=
  match m with
  | .ok a => f a
  | .er e => if e ∈ cs then h e else .bad
  | .bad => .bad
def bnd {α β : Type} (a : α) (f : α → Rx β) : Rx β := f a
inductive Lp (σ ρ : Type) where
  | go (s : σ)
  | bk (s : σ)
  | rt (r : ρ)
def Lp.aft {σ ρ τ : Type} (l : Lp σ ρ) (kr : ρ → Rx τ) (k : σ → Rx τ) : Rx τ :=
  match l with
  | .go s => k s
  | .bk s => k s
  | .rt r => kr r
def forS {σ α : Type} : List α → σ → (σ → α → Rx σ) → Rx σ
  | [], s, _ => .ok s
  | x :: r, s, f => (f s x).bind fun s' => forS r s' f
def forR {σ α ρ : Type} : List α → σ → (σ → α → Rx (Lp σ ρ)) → Rx (Lp σ ρ)
  | [], s, _ => .ok (.go s)
  | x :: r, s, f => (f s x).bind fun l =>
    match l with
    | .go s' => forR r s' f
    | .bk s' => .ok (.go s')
    | .rt v => .ok (.rt v)
def whileR {σ ρ : Type} : Nat → σ → (σ → Rx (Lp σ ρ)) → Rx (Lp σ ρ)
  | 0, _, _ => .bad
  | n + 1, s, f => (f s).bind fun l =>
    match l with
    | .go s' => whileR n s' f
    | .bk s' => .ok (.go s')
    | .rt v => .ok (.rt v)
def mapA {α β : Type} : List α → List β → (α → Rx β) → Rx (List β)
  | [], acc, _ => .ok acc
  | x :: r, acc, f => grd (acc.length ≤ 1000000) ((f x).bind fun y => mapA r (acc ++ [y]) f)
def mapF {α β : Type} : List α → List β → (α → Rx (Option β)) → Rx (List β)
  | [], acc, _ => .ok acc
  | x :: r, acc, f => grd (acc.length ≤ 1000000) ((f x).bind fun y =>
    match y with
    | some z => mapF r (acc ++ [z]) f
    | none => mapF r acc f)
section
variable {α β γ σ ρ τ : Type} {K : α → Prop} {E : Nat → Prop}
theorem cW_ok {a : α} (h : cW (.ok a) K E) : K a := by
  unfold cW at h
  exact h
theorem cW_er {e : Nat} (h : cW (.er e : Rx α) K E) : E e := by
  unfold cW at h
  exact h
theorem cW_bad {C : Prop} (h : cW (.bad : Rx α) K E) : C := by
  unfold cW at h
  exact h.elim
theorem cW_mk {a : α} (h : K a) : cW (.ok a) K E := by
  unfold cW
  exact h
theorem cW_mkE {e : Nat} (h : E e) : cW (.er e : Rx α) K E := by
  unfold cW
  exact h
theorem cW_gen {m : Rx α} (h : cW m K E) : ∃ (K' : α → Prop) (E' : Nat → Prop), (∀ v, K' v → K v) ∧ (∀ e, E' e → E e) ∧ cW m K' E' := ⟨K, E, fun _ x => x, fun _ x => x, h⟩
theorem cW_grd {p : Prop} {dp : Decidable p} {m : Rx α} (h : cW (grd p m) K E) : p ∧ cW m K E := by
  unfold grd at h
  split at h
  · exact ⟨‹p›, h⟩
  · exact cW_bad h
theorem cW_pos {p : Prop} {dp : Decidable p} {a b : Rx α} (c : p) (h : cW (if p then a else b) K E) : cW a K E := by rwa [if_pos c] at h
theorem cW_neg {p : Prop} {dp : Decidable p} {a b : Rx α} (c : ¬ p) (h : cW (if p then a else b) K E) : cW b K E := by rwa [if_neg c] at h
theorem cW_call {m : Rx β} {f : β → Rx α} {K2 : β → Prop} {E2 : Nat → Prop} (h : cW (m.bind f) K E) (ho : ∀ v, cW (f v) K E → K2 v) (he : ∀ e, E e → E2 e) : cW m K2 E2 := by
  cases m with
  | ok a => exact cW_mk (ho a h)
  | er e => exact cW_mkE (he e (cW_er (α := α) h))
  | bad => exact cW_bad (α := α) h
theorem cW_push {m : Rx β} {f : β → Rx α} (h : cW (m.bind f) K E) : ∃ K2 : β → Prop, (∀ v, K2 v → cW (f v) K E) ∧ cW m K2 E := ⟨fun v => cW (f v) K E, fun _ x => x, cW_call h (fun _ x => x) fun _ x => x⟩
theorem cW_name {m : Rx α} (h : cW m K E) : ∃ K' : α → Prop, (∀ v, K' v → K v) ∧ cW m K' E := ⟨K, fun _ x => x, h⟩
theorem cW_noEr {m : Rx α} (h : cW (noEr m) K E) : cW m K (fun _ => False) := by
  cases m with
  | ok a => exact cW_mk (cW_ok (α := α) h)
  | er e => exact cW_bad (α := α) h
  | bad => exact cW_bad (α := α) h
theorem cW_try {m : Rx β} {cs : List Nat} {f : β → Rx α} {g : Nat → Rx α} {K2 : β → Prop} {E2 : Nat → Prop} (h : cW (tryR m cs f g) K E) (ho : ∀ v, cW (f v) K E → K2 v) (hc : ∀ e, e ∈ cs → cW (g e) K E → E2 e) : cW m K2 E2 := by
  cases m with
  | ok a => exact cW_mk (ho a h)
  | er e =>
    have h2 : cW (if e ∈ cs then g e else .bad) K E := h
    by_cases q : e ∈ cs
    · exact cW_mkE (hc e q (cW_pos q h2))
    · exact cW_bad (cW_neg q h2)
  | bad => exact cW_bad (α := α) h
theorem cW_bnd {a : β} {f : β → Rx α} (h : cW (bnd a f) K E) : cW (f a) K E := h
theorem cW_negB {b : Bool} {x y : Rx α} (c : b = false) (h : cW (if b = true then x else y) K E) : cW y K E := cW_neg (by rw [c]; decide) h
theorem cW_forS {xs : List β} {i : Nat} {x : β} {s : α} {f : α → β → Rx α} (hx : xs[i]? = some x) (h : cW (forS (xs.drop i) s f) K E) : cW (f s x) (fun s' => cW (forS (xs.drop (i + 1)) s' f) K E) E := by
  rw [List.drop_eq_getElem?_toList_append, hx] at h
  exact cW_call h (fun _ z => z) fun _ z => z
theorem cW_forS0 {xs : List β} {n : Nat} {s : α} {f : α → β → Rx α} (hn : n = xs.length) (h : cW (forS (xs.drop n) s f) K E) : K s := by
  subst hn
  rw [List.drop_length] at h
  exact cW_ok h
theorem cW_forR {K : Lp σ ρ → Prop} {xs : List β} {i : Nat} {x : β} {s : σ} {f : σ → β → Rx (Lp σ ρ)} (hx : xs[i]? = some x) (h : cW (forR (xs.drop i) s f) K E) :
    cW (f s x) (fun l => match l with | .go s' => cW (forR (xs.drop (i + 1)) s' f) K E | .bk s' => K (.go s') | .rt v => K (.rt v)) E := by
  rw [List.drop_eq_getElem?_toList_append, hx] at h
  refine cW_call h (fun l z => ?_) fun _ z => z
  cases l with
  | go s' => exact z
  | bk s' => exact cW_ok (K := K) (a := .go s') z
  | rt v => exact cW_ok (K := K) (a := .rt v) z
theorem cW_forR0 {K : Lp σ ρ → Prop} {xs : List β} {n : Nat} {s : σ} {f : σ → β → Rx (Lp σ ρ)} (hn : n = xs.length) (h : cW (forR (xs.drop n) s f) K E) : K (.go s) := by
  subst hn
  rw [List.drop_length] at h
  exact cW_ok h
theorem cW_whileR {K : Lp σ ρ → Prop} {m : Nat} {s : σ} {f : σ → Rx (Lp σ ρ)} (h : cW (whileR m s f) K E) :
    ∃ n, m = n + 1 ∧ cW (f s) (fun l => match l with | .go s' => cW (whileR n s' f) K E | .bk s' => K (.go s') | .rt v => K (.rt v)) E := by
  cases m with
  | zero => exact cW_bad h
  | succ n =>
    refine ⟨n, rfl, cW_call h (fun l z => ?_) fun _ z => z⟩
    cases l with
    | go s' => exact z
    | bk s' => exact cW_ok (K := K) (a := .go s') z
    | rt v => exact cW_ok (K := K) (a := .rt v) z
theorem cW_mapA {K : List α → Prop} {xs : List β} {acc : List α} {i : Nat} {x : β} {f : β → Rx α} (hx : xs[i]? = some x) (h : cW (mapA (xs.drop i) acc f) K E) :
    acc.length ≤ 1000000 ∧ cW (f x) (fun y => cW (mapA (xs.drop (i + 1)) (acc ++ [y]) f) K E) E := by
  rw [List.drop_eq_getElem?_toList_append, hx] at h
  obtain ⟨z, h⟩ := cW_grd h
  exact ⟨z, cW_call h (fun _ z => z) fun _ z => z⟩
theorem cW_mapA0 {K : List α → Prop} {xs : List β} {acc : List α} {n : Nat} {f : β → Rx α} (hn : n = xs.length) (h : cW (mapA (xs.drop n) acc f) K E) : K acc := by
  subst hn
  rw [List.drop_length] at h
  exact cW_ok h
theorem cW_mapF {K : List α → Prop} {xs : List β} {acc : List α} {i : Nat} {x : β} {f : β → Rx (Option α)} (hx : xs[i]? = some x) (h : cW (mapF (xs.drop i) acc f) K E) :
    acc.length ≤ 1000000 ∧ cW (f x) (fun y => match y with | some z => cW (mapF (xs.drop (i + 1)) (acc ++ [z]) f) K E | none => cW (mapF (xs.drop (i + 1)) acc f) K E) E := by
  rw [List.drop_eq_getElem?_toList_append, hx] at h
  obtain ⟨z, h⟩ := cW_grd h
  refine ⟨z, cW_call h (fun y z => ?_) fun _ z => z⟩
  cases y with
  | none => exact z
  | some w => exact z
theorem cW_mapF0 {K : List α → Prop} {xs : List β} {acc : List α} {n : Nat} {f : β → Rx (Option α)} (hn : n = xs.length) (h : cW (mapF (xs.drop n) acc f) K E) : K acc := by
  subst hn
  rw [List.drop_length] at h
  exact cW_ok h
end
/-- the numbers of a range -/
def rng (lo : Int) (n : Nat) : List Int := (List.range n).map fun (j : Nat) => lo + (j : Int)
theorem rng_get {lo : Int} {n i : Nat} (h : i < n) : (rng lo n)[i]? = some (lo + (i : Int)) := by
  unfold rng
  rw [List.getElem?_map, List.getElem?_range h] <;> rfl
theorem rng_len (lo : Int) (n : Nat) : (rng lo n).length = n := by
  unfold rng
  rw [List.length_map, List.length_range]

def rngD (lo : Int) (n : Nat) : List Int := (List.range n).map fun (j : Nat) => lo + (j : Int) * (-1)
theorem rngD_get {lo : Int} {n i : Nat} (h : i < n) : (rngD lo n)[i]? = some (lo + (i : Int) * (-1)) := by
  unfold rngD
  rw [List.getElem?_map, List.getElem?_range h] <;> rfl
theorem rngD_len (lo : Int) (n : Nat) : (rngD lo n).length = n := by
  unfold rngD
  rw [List.length_map, List.length_range]

/-! ### calls that may raise -/
/-- what a call with n values and keywords ks gives the parameters -/
structure Bnd (K : PySem.W.Frag) (fd : FuncData) (ps : List Str) (n : Nat) (ks : List Str) (g : List V → List V → List V) : Prop where
  to : ∀ (s : Shared) (us ws : List Value) (vs zs : List V), K.In s.heap → vs.length = n → zs.length = ks.length → Vals vs us → Vals zs ws → ∃ vv : List Value, BindsTo s fd ⟨us, ks.zip ws⟩ (ps.zip vv) ∧ Vals (g vs zs) vv
theorem Bnd.of_kbn {K : PySem.W.Frag} {fd : FuncData} {ps ks : List Str} {n : Nat} {g : List Value → List Value → List Value} {gV : List V → List V → List V} (b : KBn K fd ps n ks g gV) : Bnd K fd ps n ks gV :=
  ⟨fun s us ws vs zs X l1 l2 r rz => ⟨g us ws, b.to s us ws X (r.length.symm.trans l1) (rz.length.symm.trans l2), b.rel r rz⟩⟩
theorem Bnd.all {K : PySem.W.Frag} {fd : FuncData} {ps ks : List Str} {n : Nat} {g : List V → List V → List V} (h : ∀ (us ws : List Value) (vs zs : List V), vs.length = n → zs.length = ks.length → Vals vs us → Vals zs ws →
    ∃ vv : List Value, bindArgs fd ⟨us, ks.zip ws⟩ = pure (ps.zip vv) ∧ Vals (g vs zs) vv) : Bnd K fd ps n ks g :=
  ⟨fun s us ws vs zs _ l1 l2 r rz => by
    obtain ⟨vv, e, q⟩ := h us ws vs zs l1 l2 r rz
    exact ⟨vv, BindsTo.of_eq e, q⟩⟩
abbrev Pat := Nat × List Str × (List V → List V → List V)
def Bnd1 (K : PySem.W.Frag) (fd : FuncData) (ps : List Str) (p : Pat) : Prop := Bnd K fd ps p.1 p.2.1 p.2.2
section
variable {P : Program} {w : World} {K : PySem.W.Frag} {mg : Str → Option Value} {base : Heap}
/-- a def of the top, with the ways it is called -/
structure DefX (K : PySem.W.Frag) (mg : Str → Option Value) (x : Str) (st : Stmt) (ps : List Str) (pats : List Pat) : Prop where
  ex : ∃ (f : Addr) (fd : FuncData) (dvs : List V) (kws : List (Str × V)), FunD K x x (defArgs st) (defBody st) (defScope st) dvs kws f fd ∧ mg x = some (.ref f) ∧ ∀ p ∈ pats, Bnd1 K fd ps p
structure CalX (P : Program) (w : World) (K : PySem.W.Frag) (mg : Str → Option Value) (base : Heap) (k : Nat) (x : Str) (sp : Sp) (pats : List Pat) : Prop where
  ex : ∃ (f : Addr) (fd : FuncData) (ps : List Str), FnG P w K mg base (L2.CX P w) k f fd ps sp ∧ mg x = some (.ref f) ∧ PySem.W.keepIn K (.ref f) = true ∧ ∀ p ∈ pats, Bnd1 K fd ps p
abbrev BodyX (P : Program) (w : World) (K : PySem.W.Frag) (mg : Str → Option Value) (base : Heap) (x : Str) (st : Stmt) (N : List Str) (k : Nat) (sp : Sp) : Prop :=
  ∀ (f : Addr) (cdv : Value) (A : Around) (outer : List Env) (s : Shared) (H : Hp) (vs : List V) (Q : VK) (E : XK), RoomG k (A.deeper (envOfC x (defScope st) s.heap.objs.size f cdv)) → sp vs H Q E →
    ∃ t, PSs (cxOf (L2.CX P w) P w K mg base N x (defScope st) f cdv A outer s H E) (defBody st) t ∧ t { nx := fun _ H' => Q .non H', rt := Q } (start N vs) H
theorem DefX.ok {x : Str} {st : Stmt} {N ps : List Str} {pats : List Pat} {k : Nat} {sp : Sp} (D : DefX K mg x st ps pats) (S : FnScope N ps (defScope st)) (len : ∀ vs H Q E, sp vs H Q E → vs.length = ps.length)
    (hbody : BodyX P w K mg base x st N k sp) : CalX P w K mg base (k + 1) x sp pats := by
  obtain ⟨f, fd, dvs, kws, F, hm, b⟩ := D.ex
  exact ⟨f, fd, ps, FnG.body F S len (fun cdv A outer s H vs Q E hr h => hbody f cdv A outer s H vs Q E hr h), hm, F.kp, b⟩
end
section
variable {X : Cx} {k j n : Nat} {f : Addr} {fd : FuncData} {ps ks : List Str} {g : List V → List V → List V} {sp : Sp} {x : Str} {pos p : Pos} {e : Expr} {es : List Expr} {kws : List Keyword} {t tk : TA} {W : WX}
theorem run_X {pins : List (Addr × Obj)} {σ : L2.St} {H : Hp} {s : Shared} {Q : VK} {us ws : List Value} {vs zs : List V} (F : FnG X.prog X.w X.K X.mg X.base (L2.CX X.prog X.w) k f fd ps sp) (hr : RoomG k X.A) (hb : Bnd X.K fd ps n ks g) (tkW : Takes X W)
    (I : Inv X pins σ H s) (r : Vals vs us) (rz : Vals zs ws) (l1 : vs.length = n) (l2 : zs.length = ks.length) (h : sp (g vs zs) H Q (WE W σ)) :
    wpAny (model X.prog X.w) X.A (call (.ref f) us (ks.zip ws)) (EP X pins σ Q) X.xe s := by
  obtain ⟨vv, b, r2⟩ := hb.to s us ws vs zs I.kIn l1 l2 r rz
  refine wpAny_call (codeAny_mono (F.run X.A X.stack s H ⟨us, ks.zip ws⟩ vv (g vs zs) Q (WE W σ) hr I.env0 b r2 h) fun rr s' hq => ?_)
  cases rr with
  | error er => exact passAt tkW σ pins H s er s' I hq
  | ok fl =>
    cases fl with
    | ret u => exact I.after hq
    | next => exact hq.elim
    | brk => exact hq.elim
    | cont => exact hq.elim
/-- f(e, .., k = v, ..) -/
def tCallX (n m : Nat) (sp : Sp) (g : List V → List V → List V) (W : WX) (t tk : TA) : TE := fun σ H Q => t σ H fun vs H1 => tk σ H1 fun zs H2 => vs.length = n ∧ zs.length = m ∧ sp (g vs zs) H2 Q (WE W σ)
theorem vx_callX {pats : List Pat} (c : CalX X.prog X.w X.K X.mg X.base k x sp pats) (pt : Pat) (hpt : pt ∈ pats) (hr : RoomG j X.A) (hk : k ≤ j) (tkW : Takes X W) (hg : Gl X x) (ha : PA X (e :: es) t) (hkw : PK X kws tk)
    (hall : (backToKw pos (keywordEach kws X.env)).all (·.1.isSome) = true := by rfl) (hks : (backToKw pos (keywordEach kws X.env)).filterMap (·.1) = pt.2.1 := by rfl)
    (hdb : (x == ("__debug__" : Str)) = false := by decide) (he : starEach (e :: es) X.env = (false, eval e X.env) :: starEach es X.env := by rfl)
    (hpl : ((backTo pos (starEach (e :: es) X.env)).any (·.1) || (backToKw pos (keywordEach kws X.env)).any (·.1.isNone)) = false := by rfl) :
    PE X (.Call (.Name x p) (e :: es) kws pos) (tCallX pt.1 pt.2.1.length sp pt.2.2 W t tk) := by
  obtain ⟨f, fd, ps, F, hm, kp, b⟩ := c.ex
  refine ⟨fun pins s σ H Q I h => ?_⟩
  refine wpAny_Call_Name_kw (ld_glob I hg hm ?_ hdb)
  refine PySem.W.callWith_KW (h₀ := X.base) I.ok.mod.kin kp hall (thn (ha.run pos pins s σ H _ I h) fun us s1 ⟨vs, H1, I1, r, q⟩ => ?_) hpl he
  refine thn (hkw.run pos pins s1 σ H1 _ I1 q) fun ws s2 ⟨zs, H2, I2, rz, l1, l2, q2⟩ => ⟨I2.kIn, ?_⟩
  rw [hks]
  exact run_X F (hr.low hk) (b pt hpt) tkW I2 r rz l1 l2 q2
theorem vx_callX0 {pats : List Pat} (c : CalX X.prog X.w X.K X.mg X.base k x sp pats) (pt : Pat) (hpt : pt ∈ pats) (hr : RoomG j X.A) (hk : k ≤ j) (tkW : Takes X W) (hg : Gl X x) (hks : pt.2.1 = [] := by rfl)
    (hdb : (x == ("__debug__" : Str)) = false := by decide) : PE X (.Call (.Name x p) [] [] pos) (tCallX pt.1 pt.2.1.length sp pt.2.2 W tNil tNil) := by
  obtain ⟨f, fd, ps, F, hm, kp, b⟩ := c.ex
  refine ⟨fun pins s σ H Q I h => ?_⟩
  refine wpAny_Call_Name_kw (ld_glob I hg hm ?_ hdb)
  obtain ⟨l1, l2, q2⟩ := h
  have hz := run_X (us := []) (ws := []) F (hr.low hk) (b pt hpt) tkW I .nil .nil l1 l2 q2
  rw [hks] at hz
  exact PySem.W.callWith_K0 I.kIn kp hz
end
/-! ### borrowed things -/
theorem Sep.bM {M : List Addr} {H0 G0 G H : Hp} {O : List (Addr)} (S : Sep M H0 G0 G H O) : Same (hideL M H0) H := fun b o e => by
  by_cases h : b ∈ M
  · rw [hideL_in h] at e
    cases e
  · rw [hideL_out h] at e
    exact S.base b o e h
theorem b_ne {M : List Addr} {H0 G0 G H : Hp} {O : List Addr} {a b : Addr} {o : HO} (h : (hideL M H0) a = some o) (S : Sep M H0 G0 G H O) (hb : b ∈ O) : a ≠ b := fun z => by
  subst z
  rcases (S.ow a hb).2.2 with q | q
  · rw [hideL_in q] at h
    cases h
  · by_cases hM : a ∈ M
    · rw [hideL_in hM] at h
      cases h
    · rw [hideL_out hM, q] at h
      cases h
theorem hide0 {H : Hp} : hideL [] H = H := by
  funext b
  unfold hideL
  rw [if_neg List.not_mem_nil]
theorem hide_nil {H : Hp} {a : Addr} {o : HO} (h : H a = some o) : (hideL [] H) a = some o := by
  rw [hide0]
  exact h
theorem Rp.hide_nil {H : Hp} {v : V} {d : PyData} (h : Rp H v d) : Rp (hideL [] H) v d := by
  rw [hide0]
  exact h
theorem Sep.startM {M : List Addr} {G H : Hp} (e : Same G H) (hM : ∀ a ∈ M, H a ≠ none) (hG : ∀ a ∈ M, G a = none) : Sep M H G G H M :=
  ⟨fun _ _ e _ => e, hM, e, Same.refl _, fun _ _ e => e, fun a ha => ⟨hG a ha, hM a ha, .inl ha⟩⟩
theorem Sep.gno {M : List Addr} {H0 G0 G H : Hp} {O L : List Addr} (S : Sep M H0 G0 G H O) (h : ∀ a ∈ L, a ∈ O) : ∀ a ∈ L, G a = none := fun a ha => (S.ow a (h a ha)).1
theorem RpAll.ixD {α : Type} [Inhabited α] {f : α → PyData} {H : Hp} {vs : List V} {xs : List α} {k : Int} (r : RpAll H vs (xs.map f)) (h : -(xs.length : Int) ≤ k ∧ k < xs.length) : ∃ v, atI vs k = some v ∧ Rp H v (f (itD xs k)) := by
  obtain ⟨v, x, h1, h2, h3⟩ := RpAll.ix r h
  refine ⟨v, h1, ?_⟩
  unfold itD
  rw [h2]
  exact h3
theorem tru_all {α : Type} [DecidableEq α] {f : α → PyData} {H : Hp} {vs : List V} {xs : List α} (r : RpAll H vs (xs.map f)) : (!decide (xs = [])) = !vs.isEmpty := by
  have h := r.len
  rw [List.length_map] at h
  cases xs <;> cases vs <;> simp_all
theorem ix_nn {α : Type} {xs : List α} {k : Int} (h0 : 0 ≤ k) (h1 : k < xs.length) : -(xs.length : Int) ≤ k ∧ k < xs.length := ⟨by omega, h1⟩
theorem all_nilQ {α : Type} {P : α → Prop} : ∀ x ∈ ([] : List α), P x := fun x h => by cases h
theorem all_consQ {α : Type} {P : α → Prop} {a : α} {l : List α} (h : P a) (t : ∀ x ∈ l, P x) : ∀ x ∈ a :: l, P x := fun x hx => by
  rcases List.mem_cons.mp hx with rfl | hx
  · exact h
  · exact t x hx
theorem mem_one {a b : Nat} (h : a ∈ [b]) : a = b := by simpa using h
theorem mem_cons2 {a b : Nat} {l : List Nat} (h : a ∈ b :: l) : a = b ∨ a ∈ l := List.mem_cons.mp h
theorem len0 {α : Type} {l : List α} (h : l.length = 0) : l = [] := List.length_eq_zero_iff.mp h
theorem len1 {α : Type} {l : List α} (h : l.length = 1) : ∃ a, l = [a] := List.length_eq_one_iff.mp h
theorem len_s {α : Type} {l : List α} {n : Nat} (h : l.length = n + 1) : ∃ a r, l = a :: r ∧ r.length = n := by
  cases l with
  | nil => cases h
  | cons a r => exact ⟨a, r, rfl, Nat.succ.inj h⟩
theorem len2 {α : Type} {l : List α} (h : l.length = 2) : ∃ a b, l = [a, b] := by
  obtain ⟨a, r, rfl, h2⟩ := len_s h
  obtain ⟨b, rfl⟩ := len1 h2
  exact ⟨a, b, rfl⟩
theorem len3 {α : Type} {l : List α} (h : l.length = 3) : ∃ a b c, l = [a, b, c] := by
  obtain ⟨a, r, rfl, h2⟩ := len_s h
  obtain ⟨b, c, rfl⟩ := len2 h2
  exact ⟨a, b, c, rfl⟩
theorem len4 {α : Type} {l : List α} (h : l.length = 4) : ∃ a b c d, l = [a, b, c, d] := by
  obtain ⟨a, r, rfl, h2⟩ := len_s h
  obtain ⟨b, c, d, rfl⟩ := len3 h2
  exact ⟨a, b, c, d, rfl⟩
theorem len5 {α : Type} {l : List α} (h : l.length = 5) : ∃ a b c d e, l = [a, b, c, d, e] := by
  obtain ⟨a, r, rfl, h2⟩ := len_s h
  obtain ⟨b, c, d, e, rfl⟩ := len4 h2
  exact ⟨a, b, c, d, e, rfl⟩
theorem len6 {α : Type} {l : List α} (h : l.length = 6) : ∃ a b c d e f, l = [a, b, c, d, e, f] := by
  obtain ⟨a, r, rfl, h2⟩ := len_s h
  obtain ⟨b, c, d, e, f, rfl⟩ := len5 h2
  exact ⟨a, b, c, d, e, f, rfl⟩
theorem len7 {α : Type} {l : List α} (h : l.length = 7) : ∃ a b c d e f g, l = [a, b, c, d, e, f, g] := by
  obtain ⟨a, r, rfl, h2⟩ := len_s h
  obtain ⟨b, c, d, e, f, g, rfl⟩ := len6 h2
  exact ⟨a, b, c, d, e, f, g, rfl⟩
def rLenTK (K : PySem.W.Frag) : List V → Hp → VK → Prop := fun xs H Q => ∃ (p : Addr) (vs : List V) (n : Nat), xs = [.ref p] ∧ SqT K H p vs ∧ vs.length = n ∧ Q (.int (n : Int)) H
theorem call_lenTK {X : Cx} {K : PySem.W.Frag} (hK : X.K = K := by rfl) : CallR X (.builtin "len") (rLenTK K) := by
  subst hK
  intro pins s σ H xs us Q I r h
  obtain ⟨p, vs, n, rfl, hs, hn, q⟩ := h
  exact call_len_seq pins s σ H _ us Q I r ⟨p, _, rfl, Or.inr hs, by rw [hn]; exact q⟩
theorem exm_mk {K : PySem.W.Frag} {S C : Addr} (h1 : PySem.W.subIn K (.ref C) (.type "BaseException") = some true) (h2 : PySem.W.isClsIn K C = true) (h3 : PySem.W.typeIn K (.ref C) = some (.type "type")) (h4 : PySem.W.subIn K (.ref S) (.ref C) = some true) :
    PySem.W.exmOne K (.ref S) (.ref C) = some true := by
  unfold PySem.W.isClsIn at h2
  unfold PySem.W.exmOne
  unfold PySem.W.kitCls
  simp only [h1, h2, h3, h4, beq_self_eq_true, Bool.and_self, if_true]
theorem kit_mk {K : PySem.W.Frag} {S C : Addr} (h2 : PySem.W.isClsIn K C = true) (h3 : PySem.W.typeIn K (.ref C) = some (.type "type")) (h4 : PySem.W.subIn K (.ref S) (.ref C) = some true) :
    PySem.W.kitOne K (.ref S) (.ref C) = some true := by
  unfold PySem.W.isClsIn at h2
  unfold PySem.W.kitOne
  split
  · rfl
  · unfold PySem.W.kitCls
    simp only [h2, h3, h4, beq_self_eq_true, Bool.and_self, if_true]
/-- isinstance(e, C) of the exception in hand -/
def rIsX (K : PySem.W.Frag) (a : Addr) (cls : Value) (d : Option Addr) : List V → Hp → VK → Prop := fun xs H Q => ∃ (D C : Addr) (b : Bool), cls = .ref D ∧ d = none ∧ ExcC K D ∧ xs = [.ref a, .ref C] ∧ PySem.W.kitOne K (.ref D) (.ref C) = some b ∧ Q (.bl b) H
theorem call_isX {X : Cx} {K : PySem.W.Frag} {a : Addr} {cls : Value} {d : Option Addr} {oe : Obj} {pn : List (Addr × Obj)} (hz : Zc cls d oe) (hf : ∃ vs, oe.data = .fields vs) (hK : X.K = K := by rfl) : CallR (X.suite a ((a, oe) :: pn)) (.builtin "isinstance") (rIsX K a cls d) := by
  subst hK
  intro pins s σ H xs us Q I r h
  obtain ⟨D, C, b, rfl, rfl, c, rfl, e, q⟩ := h
  exact call_isE c hz hf pins s σ H _ us Q I r ⟨_, _, b, rfl, fun u z => z, e, q⟩
/-! ### unpacking a list -/
section
variable {X : Cx} {K : PySem.W.Frag} {pos : Pos}
theorem pg_seqK {es : List Expr} {k : Nat} {t : TGs} {n : Nat} (h : PGs X es t) (hc : X.calm = true := by rfl) (hK : X.K = K := by rfl)
    (hn : (assignEach es X.env).length = n := by rfl) (hst : (assignEach es X.env).findIdx? (·.1) = none := by rfl) : PG X (.Tuple es k pos) (gLst K n t) := hK ▸ pg_lst hc h hn hst
end
theorem SqL.cast {K : PySem.W.Frag} {H : Hp} {a : Addr} {xs ys : List V} (h : SqL K H a xs) (e : xs = ys) : SqL K H a ys := e ▸ h
section
variable {α : Type} [Inhabited α] {f : α → V}
theorem unp2 {xs : List α} (h : xs.length = 2) : xs.map f = [f (itD xs 0), f (itD xs 1)] := by
  obtain ⟨a, b, rfl⟩ := len2 h
  rfl
theorem unp3 {xs : List α} (h : xs.length = 3) : xs.map f = [f (itD xs 0), f (itD xs 1), f (itD xs 2)] := by
  obtain ⟨a, b, c, rfl⟩ := len3 h
  rfl
theorem unp4 {xs : List α} (h : xs.length = 4) : xs.map f = [f (itD xs 0), f (itD xs 1), f (itD xs 2), f (itD xs 3)] := by
  obtain ⟨a, b, c, d, rfl⟩ := len4 h
  rfl
theorem unp6 {xs : List α} (h : xs.length = 6) : xs.map f = [f (itD xs 0), f (itD xs 1), f (itD xs 2), f (itD xs 3), f (itD xs 4), f (itD xs 5)] := by
  obtain ⟨a, b, c, d, e, g, rfl⟩ := len6 h
  rfl
theorem unp8 {xs : List α} (h : xs.length = 8) : xs.map f = [f (itD xs 0), f (itD xs 1), f (itD xs 2), f (itD xs 3), f (itD xs 4), f (itD xs 5), f (itD xs 6), f (itD xs 7)] := by
  obtain ⟨a, r, rfl, h2⟩ := len_s h
  obtain ⟨b, c, d, e, g, i, j, rfl⟩ := len7 h2
  rfl
end
/-! ### classes -/
section
variable {P : Program} {w : World} {K : PySem.W.Frag} {mg : Str → Option Value} {base : Heap}
structure MethX (K : PySem.W.Frag) (C : Addr) (q m : Str) (st : Stmt) (ps : List Str) (pats : List Pat) : Prop where
  ex : ∃ (f : Addr) (fd : FuncData) (dvs : List V) (kws : List (Str × V)), FunD K m q (defArgs st) (defBody st) (defScope st) dvs kws f fd ∧ Meth K C m f ∧ ∀ p ∈ pats, Bnd1 K fd ps p
structure InitX (K : PySem.W.Frag) (mg : Str → Option Value) (C : Addr) (cn q : Str) (st : Stmt) (ps : List Str) (pats : List Pat) : Prop where
  ex : ∃ (f : Addr) (fd : FuncData) (dvs : List V) (kws : List (Str × V)), FunD K "__init__" q (defArgs st) (defBody st) (defScope st) dvs kws f fd ∧ Mk K C f ∧ mg cn = some (.ref C) ∧ ∀ p ∈ pats, Bnd1 K fd ps p
structure PropX (K : PySem.W.Frag) (C : Addr) (q m : Str) (st : Stmt) (ps : List Str) (pats : List Pat) : Prop where
  ex : ∃ (r f : Addr) (fd : FuncData) (dvs : List V) (kws : List (Str × V)), FunD K m q (defArgs st) (defBody st) (defScope st) dvs kws f fd ∧ PropOf K C m r f ∧ Binds K fd ps []
structure MetX (P : Program) (w : World) (K : PySem.W.Frag) (mg : Str → Option Value) (base : Heap) (k : Nat) (C : Addr) (m : Str) (sp : Sp) (pats : List Pat) : Prop where
  ex : ∃ (f : Addr) (fd : FuncData) (ps : List Str), Cls K C ∧ Meth K C m f ∧ FnG P w K mg base (L2.CX P w) k f fd ps sp ∧ ∀ p ∈ pats, Bnd1 K fd ps p
structure PropY (P : Program) (w : World) (K : PySem.W.Frag) (mg : Str → Option Value) (base : Heap) (k : Nat) (C : Addr) (m : Str) (sp : Sp) (pats : List Pat) : Prop where
  ex : ∃ (q f : Addr) (fd : FuncData) (ps : List Str), Cls K C ∧ PropOf K C m q f ∧ FnG P w K mg base (L2.CX P w) k f fd ps sp ∧ Binds K fd ps []
structure MakX (P : Program) (w : World) (K : PySem.W.Frag) (mg : Str → Option Value) (base : Heap) (k : Nat) (cn : Str) (C : Addr) (sp : Sp) (pats : List Pat) : Prop where
  ex : ∃ (f : Addr) (fd : FuncData) (ps : List Str), Mk K C f ∧ FnG P w K mg base (L2.CX P w) k f fd ps sp ∧ mg cn = some (.ref C) ∧ ∀ p ∈ pats, Bnd1 K fd ps p
theorem MethX.ok {C : Addr} {q m : Str} {st : Stmt} {N ps : List Str} {pats : List Pat} {k : Nat} {sp : Sp} (D : MethX K C q m st ps pats) (c : Cls K C) (S : FnScope N ps (defScope st)) (len : ∀ vs H Q E, sp vs H Q E → vs.length = ps.length)
    (hbody : BodyX P w K mg base q st N k sp) : MetX P w K mg base (k + 1) C m sp pats := by
  obtain ⟨f, fd, dvs, kws, F, me, b⟩ := D.ex
  exact ⟨f, fd, ps, c, me, FnG.body F S len (fun cdv A outer s H vs Q E hr h => hbody f cdv A outer s H vs Q E hr h), b⟩
theorem PropX.ok {C : Addr} {q m : Str} {st : Stmt} {N ps : List Str} {pats : List Pat} {k : Nat} {sp : Sp} (D : PropX K C q m st ps pats) (c : Cls K C) (S : FnScope N ps (defScope st)) (len : ∀ vs H Q E, sp vs H Q E → vs.length = ps.length)
    (hbody : BodyX P w K mg base q st N k sp) : PropY P w K mg base (k + 1) C m sp pats := by
  obtain ⟨r, f, fd, dvs, kws, F, me, b⟩ := D.ex
  exact ⟨r, f, fd, ps, c, me, FnG.body F S len (fun cdv A outer s H vs Q E hr h => hbody f cdv A outer s H vs Q E hr h), b⟩
theorem InitX.ok {C : Addr} {cn q : Str} {st : Stmt} {N ps : List Str} {pats : List Pat} {k : Nat} {sp : Sp} (D : InitX K mg C cn q st ps pats) (S : FnScope N ps (defScope st)) (len : ∀ vs H Q E, sp vs H Q E → vs.length = ps.length)
    (hbody : BodyX P w K mg base q st N k sp) : MakX P w K mg base (k + 1) cn C sp pats := by
  obtain ⟨f, fd, dvs, kws, F, me, hm, b⟩ := D.ex
  exact ⟨f, fd, ps, me, FnG.body F S len (fun cdv A outer s H vs Q E hr h => hbody f cdv A outer s H vs Q E hr h), hm, b⟩
end
theorem cW_callN {α β : Type} {m : Rx β} {f : β → Rx α} {K : α → Prop} {E : Nat → Prop} {K2 : β → Prop} {E2 : Nat → Prop} (h : cW ((noEr m).bind f) K E) (ho : ∀ v, cW (f v) K E → K2 v) (_ : True) : cW m K2 E2 := by
  cases m with
  | ok a => exact cW_mk (ho a h)
  | er e => exact cW_bad (α := α) h
  | bad => exact cW_bad (α := α) h
section
variable {X : Cx} {k j n : Nat} {f C : Addr} {fd : FuncData} {ps ks : List Str} {g : List V → List V → List V} {sp : Sp} {x m : Str} {pos p apos : Pos} {e o : Expr} {es : List Expr} {kws : List Keyword} {ta : TE} {t tk : TA} {W : WX}
theorem run_mkX {pins : List (Addr × Obj)} {σ : L2.St} {H : Hp} {s : Shared} {Q : VK} {us ws : List Value} {vs zs : List V} (M : Mk X.K C f) (F : FnG X.prog X.w X.K X.mg X.base (L2.CX X.prog X.w) k f fd ps sp) (hr : RoomG (k + 1) X.A) (hb : Bnd X.K fd ps n ks g) (tkW : Takes X W)
    (I : Inv X pins σ H s) (r : Vals vs us) (rz : Vals zs ws) (l1 : vs.length + 1 = n) (l2 : zs.length = ks.length)
    (h : ∀ x dx, H x = none → H dx = none → dx ≠ x → sp (g (.ref x :: vs) zs) (upd (upd H dx (.own x)) x (.ins C dx [])) (fun v H2 => v = .non ∧ Q (.ref x) H2) (WE W σ)) :
    wpAny (model X.prog X.w) X.A (call (.ref C) us (ks.zip ws)) (EP X pins σ Q) X.xe s := by
  have hq := h (s.heap.objs.size + 1) s.heap.objs.size (I.hok.fresh (Nat.le_succ _)) (I.hok.fresh (Nat.le_refl _)) (Nat.ne_of_lt (Nat.lt_succ_self _))
  have I2 := Inv.made (C := C) I
  have r1 : Vals (V.ref (s.heap.objs.size + 1) :: vs) (Value.ref (s.heap.objs.size + 1) :: us) := .cons rfl r
  obtain ⟨vv, b, r2⟩ := hb.to _ (Value.ref (s.heap.objs.size + 1) :: us) ws (V.ref (s.heap.objs.size + 1) :: vs) zs I2.kIn (by rw [List.length_cons, l1]) l2 r1 rz
  refine wpAny_call (make_map (f := f) I.kIn M.makes M.init (beq_iff_eq.mp M.fn) (codeAny_mono (F.run _ X.stack _ _ ⟨Value.ref (s.heap.objs.size + 1) :: us, ks.zip ws⟩ vv _ _ (WE W σ) (hr.made C us (ks.zip ws))
    (I2.env0.make C us (ks.zip ws)) b r2 hq) fun r s' hq' => ?_))
  cases r with
  | error e => exact passAt tkW σ pins _ _ e s' I2 hq'
  | ok fl =>
    cases fl with
    | ret u =>
      obtain ⟨v, H', I3, rv, ev, q3⟩ := I2.after hq'
      subst ev
      exact ⟨rv, ⟨V.ref (s.heap.objs.size + 1), H', I3, rfl, q3⟩⟩
    | next => exact False.elim hq'
    | brk => exact False.elim hq'
    | cont => exact False.elim hq'
/-- C(e, .., k = v, ..) -/
def tMakeX (C : Addr) (n m : Nat) (sp : Sp) (g : List V → List V → List V) (W : WX) (t tk : TA) : TE := fun σ H Q => t σ H fun vs H1 => tk σ H1 fun zs H2 => vs.length + 1 = n ∧ zs.length = m ∧ ∀ x dx, H2 x = none → H2 dx = none → dx ≠ x →
  sp (g (.ref x :: vs) zs) (upd (upd H2 dx (.own x)) x (.ins C dx [])) (fun v H3 => v = .non ∧ Q (.ref x) H3) (WE W σ)
theorem vx_makeX {pats : List Pat} (c : MakX X.prog X.w X.K X.mg X.base k x C sp pats) (pt : Pat) (hpt : pt ∈ pats) (hr : RoomG j X.A) (hk : k + 1 ≤ j) (tkW : Takes X W) (hg : Gl X x) (ha : PA X (e :: es) t) (hkw : PK X kws tk)
    (hall : (backToKw pos (keywordEach kws X.env)).all (·.1.isSome) = true := by rfl) (hks : (backToKw pos (keywordEach kws X.env)).filterMap (·.1) = pt.2.1 := by rfl) (hdb : (x == ("__debug__" : Str)) = false := by decide)
    (he : starEach (e :: es) X.env = (false, eval e X.env) :: starEach es X.env := by rfl) (hpl : ((backTo pos (starEach (e :: es) X.env)).any (·.1) || (backToKw pos (keywordEach kws X.env)).any (·.1.isNone)) = false := by rfl) :
    PE X (.Call (.Name x p) (e :: es) kws pos) (tMakeX C pt.1 pt.2.1.length sp pt.2.2 W t tk) := by
  obtain ⟨f, fd, ps, M, F, hm, b⟩ := c.ex
  refine ⟨fun pins s σ H Q I h => ?_⟩
  refine wpAny_Call_Name_kw (ld_glob I hg hm ?_ hdb)
  refine PySem.W.callWith_KW (h₀ := X.base) I.ok.mod.kin M.kp hall (thn (ha.run pos pins s σ H _ I h) fun us s1 ⟨vs, H1, I1, r, q⟩ => ?_) hpl he
  refine thn (hkw.run pos pins s1 σ H1 _ I1 q) fun ws s2 ⟨zs, H2, I2, rz, l1, l2, q2⟩ => ⟨I2.kIn, ?_⟩
  rw [hks]
  exact run_mkX M F (hr.low hk) (b pt hpt) tkW I2 r rz l1 l2 q2
theorem vx_makeX0 {pats : List Pat} (c : MakX X.prog X.w X.K X.mg X.base k x C sp pats) (pt : Pat) (hpt : pt ∈ pats) (hr : RoomG j X.A) (hk : k + 1 ≤ j) (tkW : Takes X W) (hg : Gl X x) (hks : pt.2.1 = [] := by rfl)
    (hdb : (x == ("__debug__" : Str)) = false := by decide) : PE X (.Call (.Name x p) [] [] pos) (tMakeX C pt.1 pt.2.1.length sp pt.2.2 W tNil tNil) := by
  obtain ⟨f, fd, ps, M, F, hm, b⟩ := c.ex
  refine ⟨fun pins s σ H Q I h => ?_⟩
  refine wpAny_Call_Name_kw (ld_glob I hg hm ?_ hdb)
  obtain ⟨l1, l2, q2⟩ := h
  have hz := run_mkX (us := []) (ws := []) M F (hr.low hk) (b pt hpt) tkW I .nil .nil l1 l2 q2
  rw [hks] at hz
  exact PySem.W.callWith_K0 I.kIn M.kp hz
/-- o.m(e, .., k = v, ..) -/
def tMethX (C : Addr) (m : Str) (n mm : Nat) (sp : Sp) (g : List V → List V → List V) (W : WX) (ta : TE) (t tk : TA) : TE := fun σ H Q => ta σ H fun x H1 => ∃ a dx fs, x = .ref a ∧ H1 a = some (.ins C dx fs) ∧ fs.lookup m = none ∧
  t σ H1 fun vs H2 => tk σ H2 fun zs H3 => (x :: vs).length = n ∧ zs.length = mm ∧ sp (g (x :: vs) zs) H3 Q (WE W σ)
theorem vx_methX {pats : List Pat} {pl : Sem Bool} (c : MetX X.prog X.w X.K X.mg X.base k C m sp pats) (pt : Pat) (hpt : pt ∈ pats) (hr : RoomG j X.A) (hk : k ≤ j) (tkW : Takes X W) (he : PE X o ta) (ha : PA X (e :: es) t) (hkw : PK X kws tk)
    (hall : (backToKw pos (keywordEach kws X.env)).all (·.1.isSome) = true := by rfl) (hks : (backToKw pos (keywordEach kws X.env)).filterMap (·.1) = pt.2.1 := by rfl)
    (hst : starEach (e :: es) X.env = (false, eval e X.env) :: starEach es X.env := by rfl) (hpl : ((backTo pos (starEach (e :: es) X.env)).any (·.1) || (backToKw pos (keywordEach kws X.env)).any (·.1.isNone)) = false := by rfl)
    (ht : eval (.Call (.Attribute o m apos) (e :: es) kws pos) X.env = (do
      let ov ← eval o X.env
      standAt apos.atName
      let (f, first) ← holding [ov] (getMethod ov m pl)
      callWith pos f first (backTo pos (starEach (e :: es) X.env)) (backToKw pos (keywordEach kws X.env))) := by rfl) :
    PE X (.Call (.Attribute o m apos) (e :: es) kws pos) (tMethX C m pt.1 pt.2.1.length sp pt.2.2 W ta t tk) := by
  obtain ⟨f, fd, ps, hc, hm, F, b⟩ := c.ex
  refine ⟨fun pins s σ H Q I h => ?_⟩
  refine PySem.W.methodCall_KW (pl := pl) (thn (he.run pins s σ H _ I h) fun u s1 ⟨x, H1, I1, rx, a, dx, fs, ex, ea, l, q⟩ => ?_) ht
  subst ex
  obtain rfl : u = Value.ref a := rx
  refine getmeth_ok I1 ea hc hm l ?_
  refine PySem.W.callWith_KW (first := [.ref a]) (h₀ := X.base) I.ok.mod.kin hm.kp hall (thn (ha.run pos pins s1 σ H1 _ I1 q) fun us s2 ⟨vs, H2, I2, r, q2⟩ => ?_) hpl hst
  refine thn (hkw.run pos pins s2 σ H2 _ I2 q2) fun ws s3 ⟨zs, H3, I3, rz, l1, l2, q3⟩ => ⟨I3.kIn, ?_⟩
  rw [hks]
  exact run_X (us := .ref a :: us) (vs := .ref a :: vs) F (hr.low hk) (b pt hpt) tkW I3 (.cons rfl r) rz l1 l2 q3
theorem vx_methX0 {pats : List Pat} {pl : Sem Bool} (c : MetX X.prog X.w X.K X.mg X.base k C m sp pats) (pt : Pat) (hpt : pt ∈ pats) (hr : RoomG j X.A) (hk : k ≤ j) (tkW : Takes X W) (he : PE X o ta) (hks : pt.2.1 = [] := by rfl)
    (ht : eval (.Call (.Attribute o m apos) [] [] pos) X.env = (do
      let ov ← eval o X.env
      standAt apos.atName
      let (f, first) ← holding [ov] (getMethod ov m pl)
      callWith pos f first (backTo pos (starEach [] X.env)) (backToKw pos (keywordEach [] X.env))) := by rfl) :
    PE X (.Call (.Attribute o m apos) [] [] pos) (tMethX C m pt.1 pt.2.1.length sp pt.2.2 W ta tNil tNil) := by
  obtain ⟨f, fd, ps, hc, hm, F, b⟩ := c.ex
  refine ⟨fun pins s σ H Q I h => ?_⟩
  refine PySem.W.methodCall_KW (pl := pl) (thn (he.run pins s σ H _ I h) fun u s1 ⟨x, H1, I1, rx, a, dx, fs, ex, ea, l, q⟩ => ?_) ht
  subst ex
  obtain rfl : u = Value.ref a := rx
  refine getmeth_ok I1 ea hc hm l ?_
  obtain ⟨l1, l2, q3⟩ := q
  have hz := run_X (us := [.ref a]) (vs := [.ref a]) (ws := []) F (hr.low hk) (b pt hpt) tkW I1 (.cons rfl .nil) .nil l1 l2 q3
  rw [hks] at hz
  exact PySem.W.callWith_K0 (first := [.ref a]) I1.kIn hm.kp hz
theorem vx_propX {pats : List Pat} (c : PropY X.prog X.w X.K X.mg X.base k C m sp pats) (hr : RoomG j X.A) (hk : k + 1 ≤ j) (he : PE X o ta) (hab : attributeBase o m X.env (eval o X.env) = eval o X.env := by rfl) : PE X (.Attribute o m pos) (tProp C sp [] E0 ta) := by
  obtain ⟨q, f, fd, ps, cls, prop, F, bind⟩ := c.ex
  constructor
  intro pins s σ H Q I h
  refine attr_of hab (thn (he.run pins s σ H _ I h) ?_)
  rintro u s1 ⟨x, H1, I1, rx, a, dx, fs, rfl, ea, prom⟩
  cases rx
  obtain ⟨mA, O, _⟩ := ins_get I1.hok ea
  obtain ⟨od, J, _⟩ := O.look
  obtain ⟨rest, rec_⟩ := prop.rec_
  have short : [Value.ref a].length = ps.length := (F.len _ _ _ _ prom).symm ▸ rfl
  have isCls : (PySem.W.clsIn X.K C).isSome = true := by
    obtain ⟨cd, e, _⟩ := PySem.W.any_some cls.hd
    rw [e]
    rfl
  refine PySem.W.get_bind I1.kIn J (PySem.W.plainGet_of (cls.get m)).1 (PySem.W.findObj_data isCls prop.at_ prop.get prop.tak) (PySem.W.plainGet_of (cls.get m)).2 (wpAny_call (PySem.W.prop_get (s := { s1 with toks := s1.toks + 1 }) I1.kIn rec_ ?_))
  have I2 := I1.tok (s1.toks + 1)
  refine codeAny_mono (F.run X.A.in1 X.stack _ H1 ⟨[.ref a], []⟩ [.ref a] [.ref a] Q E0 (hr.low hk).one I2.env0.in1 (by simpa using bind _ [.ref a] I2.kIn (by simpa using short)) (.cons rfl .nil) prom) ?_
  intro r s2 out
  cases r with
  | error er => exact (passL (X := X.nox) pins σ H1 _ er s2 (I2.wish _) out).elim
  | ok flow =>
    cases flow with
    | ret v =>
      obtain ⟨y, H2, I3, ry, qy⟩ := I2.after out
      have given := PySem.W.handedOut_of (handed_of ry)
      show wpAny _ _ (handedOut v) _ _ s2
      rw [given]
      exact wpAny_pure ⟨y, H2, I3, ry, qy⟩
    | next => exact out.elim
    | brk => exact out.elim
    | cont => exact out.elim
end
theorem Sep.news {M : List Addr} {H0 G0 G H H' : Hp} {O : List Addr} (S : Sep M H0 G0 G H O) (e : Same H H') (L : List Addr) (hL : ∀ a ∈ L, H a = none ∧ H' a ≠ none ∧ H0 a = none) : Sep M H0 G0 G H' (L ++ O) := by
  have S2 := S.same e
  refine ⟨S2.base, S2.pm, S2.sG, S2.g0, S2.gn, fun a ha => ?_⟩
  rcases List.mem_append.mp ha with h | h
  · obtain ⟨h1, h2, h3⟩ := hL a h
    exact ⟨S.gfree h1, h2, .inr h3⟩
  · exact S2.ow a h
theorem vv_chain {r r' : R2} {ta tb tc : TE} {σ : L2.St} {H : Hp} {x y z : V} {a b : Bool} (ha : Val ta σ H x) (hb : Val tb σ H y) (hc : Val tc σ H z) (h1 : ∀ Q : VK, Q (.bl a) H → r x y H Q) (h2 : ∀ Q : VK, Q (.bl b) H → r' y z H Q) :
    Val (tChain r r' ta tb tc) σ H (.bl (a && b)) := fun Q q => ha _ (hb _ (h1 _ ⟨a, rfl, by
  cases a with
  | true =>
    rw [if_pos rfl]
    exact hc _ (h2 _ q)
  | false =>
    rw [if_neg Bool.false_ne_true]
    exact q⟩))
/-! ### constants that are tuples, lists backwards, zip -/
theorem inV_ints (x : Int) : ∀ xs : List Int, inV (V.int x) (xs.map V.int) = decide (x ∈ xs)
  | [] => by simp [inV]
  | y :: r => by
    have h := inV_ints x r
    unfold inV at h ⊢
    rw [List.map_cons, List.any_cons, h]
    by_cases c : x = y
    · subst c
      simp [eqV]
    · simp [eqV, c, Ne.symm c]
theorem flat_ints : ∀ xs : List Int, (xs.map V.int).all flatV = true
  | [] => rfl
  | _ :: r => flat_ints r
def rInI (K : PySem.W.Frag) : R2 := fun x y H Q => ∃ (i : Int) (p : Addr) (xs : List Int), x = .int i ∧ y = .ref p ∧ (SqL K H p (xs.map V.int) ∨ SqT K H p (xs.map V.int)) ∧ Q (.bl (decide (i ∈ xs))) H
def rNotInI (K : PySem.W.Frag) : R2 := fun x y H Q => ∃ (i : Int) (p : Addr) (xs : List Int), x = .int i ∧ y = .ref p ∧ (SqL K H p (xs.map V.int) ∨ SqT K H p (xs.map V.int)) ∧ Q (.bl (!decide (i ∈ xs))) H
theorem op_inI {X : Cx} {K : PySem.W.Frag} (hK : X.K = K := by rfl) : OpR X (compareOp .In) (rInI K) := by
  subst hK
  intro pins s σ H x y v u Q I rx ry h
  obtain ⟨i, p, xs, rfl, rfl, hs, q⟩ := h
  refine op_in_seq pins s σ H _ _ v u Q I rx ry ⟨p, _, rfl, hs, rfl, flat_ints xs, ?_⟩
  rw [if_neg Bool.false_ne_true, inV_ints]
  exact q
theorem op_notInI {X : Cx} {K : PySem.W.Frag} (hK : X.K = K := by rfl) : OpR X (compareOp .NotIn) (rNotInI K) := by
  subst hK
  intro pins s σ H x y v u Q I rx ry h
  obtain ⟨i, p, xs, rfl, rfl, hs, q⟩ := h
  refine op_notIn_seq pins s σ H _ _ v u Q I rx ry ⟨p, _, rfl, hs, rfl, flat_ints xs, ?_⟩
  rw [if_pos rfl, inV_ints]
  exact q
theorem pe_revLK {X : Cx} {K : PySem.W.Frag} {e : Expr} {te : TE} {k : Nat} {p1 p2 p3 pos : Pos} (he : PE X e te) (hK : X.K = K := by rfl) : PE X (.Subscript e (.Slice none none (some (.UnaryOp .USub (.Constant (.int 1) k p1) p2)) p3) pos) (tRevL K te) := hK ▸ pe_revL he
theorem rev_map {α : Type} {f : α → V} {xs : List α} {H : Hp} {p : Addr} (h : H p = some (.lst (xs.map f).reverse)) : H p = some (.lst (xs.reverse.map f)) := by
  rw [List.map_reverse]
  exact h
theorem RpAll.rev {G : Hp} : ∀ {vs : List V} {ds : List PyData}, RpAll G vs ds → RpAll G vs.reverse ds.reverse
  | _, _, .nil => .nil
  | _, _, .cons h t => by
    rw [List.reverse_cons, List.reverse_cons]
    exact (RpAll.rev t).append (.one h)
theorem rev_all {α : Type} {f : α → PyData} {xs : List α} {G : Hp} {vs : List V} (a : RpAll G vs (xs.map f)) : RpAll G vs.reverse (xs.reverse.map f) := by
  rw [List.map_reverse]
  exact a.rev
theorem pi_zipK {X : Cx} {K : PySem.W.Frag} {e e2 : Expr} {ta : TA} {p pos tpos : Pos} {elts : List Expr} {kk : Nat} (hg : Gl X "zip") (hm : X.mg "zip" = none) (ha : PA X [e, e2] ta) (hK : X.K = K := by rfl)
    (hs : starEach [e, e2] X.env = (false, eval e X.env) :: starEach [e2] X.env := by rfl) (hpl : (backTo pos (starEach [e2] X.env)).any (·.1) = false := by rfl) :
    PI X (.Tuple elts kk tpos) (.Call (.Name "zip" p) [e, e2] [] pos) (RZ.iZipA K ta) := hK ▸ RZ.pi_zipA hg hm ha hs hpl
/-- a comprehension over zip of two lists of one length -/
theorem lc_zipL {K : PySem.W.Frag} {a b : Addr} {xs ys : List V} {g : TG} {tt : TT} {te : TE} {vs : List Nat} {σ : L2.St} {H1 : Hp} {D : Addr} {Qd : Hp → Prop} (hl : xs.length = ys.length) (Pv : Nat → Hp → Prop) (h0 : Pv 0 (upd H1 D (.lst []))) (hq : ∀ i H, i ≤ xs.length → Pv i H → SqL K H a xs ∧ SqL K H b ys)
    (hs : ∀ (i : Nat) (x y : V) (T : Addr) (H : Hp), xs[i]? = some x → ys[i]? = some y → H T = none → Pv i H → g (.ref T) (wipe σ vs) (upd H T (.tup [x, y])) fun σ2 H2 => wipe σ2 vs = wipe σ vs ∧ tt σ2 H2 fun b H3 =>
      if b = true then te σ2 H3 fun y H4 => ∃ acc, H4 D = some (.lst acc) ∧ acc.length < sizeLine ∧ Pv (i + 1) (upd H4 D (.lst (acc ++ [y]))) else Pv (i + 1) H3) (hd : ∀ H, Pv xs.length H → Qd H) :
    ∃ W : Nat → Nat → Hp → Prop, (∃ m, W 0 m (upd H1 D (.lst []))) ∧ ∀ i m H, W i m H →
      ((Itz K a b).stop i H ∧ Qd H) ∨ ((Itz K a b).go i H ∧ ∃ Nx : Hp → Prop, (∀ H', Nx H' → ∃ m', m' < m ∧ W (i + 1) m' H') ∧ ∀ x H', (Itz K a b).yld i H x H' → g x (wipe σ vs) H' fun σ2 H2 => wipe σ2 vs = wipe σ vs ∧ tt σ2 H2 fun b H3 =>
        if b = true then te σ2 H3 fun y H4 => ∃ acc, H4 D = some (.lst acc) ∧ acc.length < sizeLine ∧ Nx (upd H4 D (.lst (acc ++ [y]))) else Nx H3) := by
  refine ⟨fun i m H => m = xs.length - i ∧ i ≤ xs.length ∧ Pv i H, ⟨xs.length, by simp, Nat.zero_le _, h0⟩, ?_⟩
  rintro i m H ⟨rfl, hi, p⟩
  obtain ⟨qx, qy⟩ := hq i H hi p
  by_cases hlt : i < xs.length
  · have hlt2 : i < ys.length := by omega
    refine .inr ⟨⟨xs, ys, xs[i], ys[i], qx, qy, List.getElem?_eq_getElem hlt, List.getElem?_eq_getElem hlt2⟩, Pv (i + 1), fun H' p' => ⟨xs.length - (i + 1), by omega, rfl, hlt, p'⟩, fun v H' y => ?_⟩
    obtain ⟨T, x', y', rfl, hT, rfl, f1, f2⟩ := y
    exact hs i x' y' T H (f1 xs qx) (f2 ys qy) hT p
  · have e : i = xs.length := by omega
    subst e
    exact .inl ⟨⟨xs, ys, qx, qy, Or.inl (Nat.le_refl _)⟩, hd H p⟩
theorem zip_get {α β : Type} {xs : List α} {ys : List β} {i : Nat} {x : α} {y : β} (h1 : xs[i]? = some x) (h2 : ys[i]? = some y) : (xs.zip ys)[i]? = some (x, y) := by
  rw [List.getElem?_zip_eq_some]
  exact ⟨h1, h2⟩
theorem zip_len {α β : Type} {xs : List α} {ys : List β} {n : Nat} (h : xs.length = ys.length) (e : n = xs.length) : n = (xs.zip ys).length := by
  rw [List.length_zip, ← h, Nat.min_self]
  exact e
theorem zlen {α β : Type} {vs ws : List V} {xs : List α} {ys : List β} (a : vs.length = xs.length) (b : ws.length = ys.length) (h : xs.length = ys.length) : vs.length = ws.length := by rw [a, b, h]
section
variable {t : TT} {ta tb : TE} {σ : L2.St} {H : Hp}
theorem vv_ifP {p : Prop} [Decidable p] {a b : Int} (ht : Ans t σ H (decide p)) (hx : p → Val ta σ H (.int a)) (hy : ¬ p → Val tb σ H (.int b)) : Val (tIf t ta tb) σ H (.int (if p then a else b)) := by
  by_cases h : p
  · have := vv_if (p := p) (a := a) (b := a) ht (hx h) (tb := ta) (hx h)
    intro Q q
    refine ht _ ?_
    rw [decide_eq_true h, if_pos rfl]
    rw [if_pos h] at q
    exact hx h _ q
  · intro Q q
    refine ht _ ?_
    rw [decide_eq_false h, if_neg Bool.false_ne_true]
    rw [if_neg h] at q
    exact hy h _ q
theorem vv_ifQ {c : Bool} {a b : Int} (ht : Ans t σ H c) (hx : c = true → Val ta σ H (.int a)) (hy : c = false → Val tb σ H (.int b)) : Val (tIf t ta tb) σ H (.int (if c = true then a else b)) := by
  intro Q q
  refine ht _ ?_
  cases c with
  | true =>
    rw [if_pos rfl]
    rw [if_pos rfl] at q
    exact hx rfl _ q
  | false =>
    rw [if_neg Bool.false_ne_true]
    rw [if_neg Bool.false_ne_true] at q
    exact hy rfl _ q
end
theorem kit_mk0 {K : PySem.W.Frag} {S C : Addr} (h1 : (Value.ref S == Value.ref C) = false) (h2 : PySem.W.isClsIn K C = true) (h3 : PySem.W.typeIn K (.ref C) = some (.type "type")) (h4 : PySem.W.subIn K (.ref S) (.ref C) = some false) :
    PySem.W.kitOne K (.ref S) (.ref C) = some false := by
  unfold PySem.W.isClsIn at h2
  unfold PySem.W.kitOne
  rw [if_neg (by rw [h1]; exact Bool.false_ne_true)]
  unfold PySem.W.kitCls
  simp only [h2, h3, h4, beq_self_eq_true, Bool.and_self, if_true]
theorem vv_call2 {ta tb : TE} {σ : L2.St} {H : Hp} {x y z : V} {r : List V → Hp → VK → Prop} (ha : Val ta σ H x) (hb : Val tb σ H y) (hr : ∀ Q : VK, Q z H → r [x, y] H Q) : Val (tCB r (tCons ta (tCons tb tNil))) σ H z := fun Q q => ha _ (hb _ (hr Q q))
/-! ### lists of data that the caller owns; values that are a truth value or a number -/
theorem Sep.stepnew {M : List Addr} {H0 G0 G H H' : Hp} {O : List Addr} {p : Addr} {o : HO} (S : Sep M H0 G0 G H O) {G' : Hp} (e : Same H H') (eG : Same G G') (sG : Same G' H') (hn : ∀ b, H b ≠ none → G b = none → G' b = none) (_n : H p = none) (h : H' p = some o) (g : G' p = none) (hm : H0 p = none) : Sep M H0 G0 G' H' (p :: O) := by
  have S2 := S.step e eG sG hn
  refine ⟨S2.base, S2.pm, S2.sG, S2.g0, S2.gn, fun a ha => ?_⟩
  rcases List.mem_cons.mp ha with rfl | ha
  · exact ⟨g, (fun z => by rw [z] at h; cases h), .inr hm⟩
  · exact S2.ow a ha
inductive Bi where
  | b (x : Bool)
  | n (i : Int)
deriving DecidableEq
def biV : Bi → V
  | .b x => .bl x
  | .n i => .int i
def Bi.el {α : Type} (v : Bi) (f : Bool → α) (g : Int → α) : α :=
  match v with
  | .b x => f x
  | .n i => g i
theorem cW_elb {α : Type} {x : Bool} {f : Bool → Rx α} {g : Int → Rx α} {K : α → Prop} {E : Nat → Prop} (h : cW (Bi.el (.b x) f g) K E) : cW (f x) K E := h
theorem cW_eln {α : Type} {x : Int} {f : Bool → Rx α} {g : Int → Rx α} {K : α → Prop} {E : Nat → Prop} (h : cW (Bi.el (.n x) f g) K E) : cW (g x) K E := h
theorem rp_tup4 {α β γ δ : Type} {f : α → PyData} {g : β → PyData} {h : γ → PyData} {i : δ → PyData} {H : Hp} {v : V} {x : α × β × γ × δ} (r : Rp H v (encT4 f g h i x)) : ∃ a v1 v2 v3 v4, v = .ref a ∧ H a = some (.tup [v1, v2, v3, v4]) ∧ Rp H v1 (f x.1) ∧ Rp H v2 (g x.2.1) ∧ Rp H v3 (h x.2.2.1) ∧ Rp H v4 (i x.2.2.2) := by
  unfold encT4 at r
  cases r with
  | tup h1 h2 =>
    cases h2 with
    | cons a b =>
      cases b with
      | cons b c =>
        cases c with
        | cons c d =>
          cases d with
          | cons d e =>
            cases e
            exact ⟨_, _, _, _, _, rfl, h1, a, b, c, d⟩
theorem rp_mk4 {α β γ δ : Type} {f : α → PyData} {g : β → PyData} {h : γ → PyData} {i : δ → PyData} {H : Hp} {a : Addr} {v1 v2 v3 v4 : V} {x : α} {y : β} {z : γ} {w : δ} (h1 : H a = some (.tup [v1, v2, v3, v4])) (r1 : Rp H v1 (f x)) (r2 : Rp H v2 (g y)) (r3 : Rp H v3 (h z)) (r4 : Rp H v4 (i w)) : Rp H (.ref a) (encT4 f g h i (x, y, z, w)) := .tup h1 (.cons r1 (.cons r2 (.cons r3 (.cons r4 .nil))))
theorem Sep.b0M {M : List Addr} {H0 G0 G H : Hp} {O : List Addr} (S : Sep M H0 G0 G H O) (h : ∀ a ∈ M, H a = H0 a) : Same H0 H := fun b o e => by
  by_cases z : b ∈ M
  · rw [h b z]
    exact e
  · exact S.base b o e z
section
variable {X : Cx} {k j n : Nat} {f C : Addr} {fd : FuncData} {ps ks : List Str} {g : List V → List V → List V} {sp : Sp} {x m : Str} {pos p apos : Pos} {e o : Expr} {es : List Expr} {kws : List Keyword} {ta : TE} {t tk : TA} {W : WX}
/-- keywords alone -/
theorem vx_makeXK {pats : List Pat} (c : MakX X.prog X.w X.K X.mg X.base k x C sp pats) (pt : Pat) (hpt : pt ∈ pats) (hr : RoomG j X.A) (hk : k + 1 ≤ j) (tkW : Takes X W) (hg : Gl X x) (hkw : PK X kws tk)
    (hall : (backToKw pos (keywordEach kws X.env)).all (·.1.isSome) = true := by rfl) (hks : (backToKw pos (keywordEach kws X.env)).filterMap (·.1) = pt.2.1 := by rfl) (hdb : (x == ("__debug__" : Str)) = false := by decide)
    (hpl : ((backTo pos (starEach [] X.env)).any (·.1) || (backToKw pos (keywordEach kws X.env)).any (·.1.isNone)) = false := by rfl) :
    PE X (.Call (.Name x p) [] kws pos) (tMakeX C pt.1 pt.2.1.length sp pt.2.2 W tNil tk) := by
  obtain ⟨f, fd, ps, M, F, hm, b⟩ := c.ex
  refine ⟨fun pins s σ H Q I h => ?_⟩
  refine wpAny_Call_Name_kw (ld_glob I hg hm ?_ hdb)
  refine PySem.W.callWith_KW0 (h₀ := X.base) I.ok.mod.kin M.kp hall ?_ hpl
  refine thn (hkw.run pos pins s σ H _ I h) fun ws s2 ⟨zs, H2, I2, rz, l1, l2, q2⟩ => ⟨I2.kIn, ?_⟩
  rw [hks]
  exact run_mkX (us := []) (vs := []) M F (hr.low hk) (b pt hpt) tkW I2 .nil rz l1 l2 q2
theorem vx_callXK {pats : List Pat} (c : CalX X.prog X.w X.K X.mg X.base k x sp pats) (pt : Pat) (hpt : pt ∈ pats) (hr : RoomG j X.A) (hk : k ≤ j) (tkW : Takes X W) (hg : Gl X x) (hkw : PK X kws tk)
    (hall : (backToKw pos (keywordEach kws X.env)).all (·.1.isSome) = true := by rfl) (hks : (backToKw pos (keywordEach kws X.env)).filterMap (·.1) = pt.2.1 := by rfl) (hdb : (x == ("__debug__" : Str)) = false := by decide)
    (hpl : ((backTo pos (starEach [] X.env)).any (·.1) || (backToKw pos (keywordEach kws X.env)).any (·.1.isNone)) = false := by rfl) :
    PE X (.Call (.Name x p) [] kws pos) (tCallX pt.1 pt.2.1.length sp pt.2.2 W tNil tk) := by
  obtain ⟨f, fd, ps, F, hm, kp, b⟩ := c.ex
  refine ⟨fun pins s σ H Q I h => ?_⟩
  refine wpAny_Call_Name_kw (ld_glob I hg hm ?_ hdb)
  refine PySem.W.callWith_KW0 (h₀ := X.base) I.ok.mod.kin kp hall ?_ hpl
  refine thn (hkw.run pos pins s σ H _ I h) fun ws s2 ⟨zs, H2, I2, rz, l1, l2, q2⟩ => ⟨I2.kIn, ?_⟩
  rw [hks]
  exact run_X (us := []) (vs := []) F (hr.low hk) (b pt hpt) tkW I2 .nil rz l1 l2 q2
theorem vx_methXK {pats : List Pat} {pl : Sem Bool} (c : MetX X.prog X.w X.K X.mg X.base k C m sp pats) (pt : Pat) (hpt : pt ∈ pats) (hr : RoomG j X.A) (hk : k ≤ j) (tkW : Takes X W) (he : PE X o ta) (hkw : PK X kws tk)
    (hall : (backToKw pos (keywordEach kws X.env)).all (·.1.isSome) = true := by rfl) (hks : (backToKw pos (keywordEach kws X.env)).filterMap (·.1) = pt.2.1 := by rfl)
    (hpl : ((backTo pos (starEach [] X.env)).any (·.1) || (backToKw pos (keywordEach kws X.env)).any (·.1.isNone)) = false := by rfl)
    (ht : eval (.Call (.Attribute o m apos) [] kws pos) X.env = (do
      let ov ← eval o X.env
      standAt apos.atName
      let (f, first) ← holding [ov] (getMethod ov m pl)
      callWith pos f first (backTo pos (starEach [] X.env)) (backToKw pos (keywordEach kws X.env))) := by rfl) :
    PE X (.Call (.Attribute o m apos) [] kws pos) (tMethX C m pt.1 pt.2.1.length sp pt.2.2 W ta tNil tk) := by
  obtain ⟨f, fd, ps, hc, hm, F, b⟩ := c.ex
  refine ⟨fun pins s σ H Q I h => ?_⟩
  refine PySem.W.methodCall_KW (pl := pl) (thn (he.run pins s σ H _ I h) fun u s1 ⟨x, H1, I1, rx, a, dx, fs, ex, ea, l, q⟩ => ?_) ht
  subst ex
  obtain rfl : u = Value.ref a := rx
  refine getmeth_ok I1 ea hc hm l ?_
  refine PySem.W.callWith_KW0 (first := [.ref a]) (h₀ := X.base) I.ok.mod.kin hm.kp hall ?_ hpl
  refine thn (hkw.run pos pins s1 σ H1 _ I1 q) fun ws s3 ⟨zs, H3, I3, rz, l1, l2, q3⟩ => ⟨I3.kIn, ?_⟩
  rw [hks]
  exact run_X (us := [.ref a]) (vs := [.ref a]) F (hr.low hk) (b pt hpt) tkW I3 (.cons rfl .nil) rz l1 l2 q3
end
end Vx
/-! # lists within lists that are owned as a whole -/
namespace Vx
open PySem PySem.Spec PyProof.Rows L2
inductive Kd where
  | lst
  | tup
  | ins (C dx : Addr) (ns : List Str)
def Kd.ho : Kd → List V → HO
  | .lst, vs => .lst vs
  | .tup, vs => .tup vs
  | .ins C dx ns, vs => .ins C dx (ns.zip vs)
/-- what stands in the heap as a tree: values as they are, data that stay, nodes of its own -/
inductive Dt where
  | val (v : V)
  | frz (d : PyData)
  | nod (k : Kd) (xs : List Dt)
mutual
inductive Ow (G H : Hp) : List Addr → V → Dt → Prop
  | val (v : V) : Ow G H [] v (.val v)
  | frz {v : V} {d : PyData} : Rp G v d → Ow G H [] v (.frz d)
  | nod {a : Addr} {k : Kd} {vs : List V} {ds : List Dt} {L : List Addr} : H a = some (k.ho vs) → OwAll G H L vs ds → a ∉ L → Ow G H (a :: L) (.ref a) (.nod k ds)
inductive OwAll (G H : Hp) : List Addr → List V → List Dt → Prop
  | nil : OwAll G H [] [] []
  | cons {L1 L2 : List Addr} {v : V} {vs : List V} {d : Dt} {ds : List Dt} : Ow G H L1 v d → OwAll G H L2 vs ds → (∀ b ∈ L1, b ∉ L2) → OwAll G H (L1 ++ L2) (v :: vs) (d :: ds)
end
def Keeps (L : List Addr) (H H' : Hp) : Prop := ∀ b ∈ L, ∀ o, H b = some o → H' b = some o
mutual
theorem Ow.mono {G G' H H' : Hp} (e : Same G G') : ∀ {L : List Addr} {v : V} {d : Dt}, Keeps L H H' → Ow G H L v d → Ow G' H' L v d
  | _, _, _, _, .val v => .val v
  | _, _, _, _, .frz r => .frz (r.mono e)
  | _, _, _, k, .nod h r n => .nod (k _ List.mem_cons_self _ h) (OwAll.mono e (fun b hb => k b (List.mem_cons_of_mem _ hb)) r) n
theorem OwAll.mono {G G' H H' : Hp} (e : Same G G') : ∀ {L : List Addr} {vs : List V} {ds : List Dt}, Keeps L H H' → OwAll G H L vs ds → OwAll G' H' L vs ds
  | _, _, _, _, .nil => .nil
  | _, _, _, k, .cons a r d => .cons (Ow.mono e (fun b hb => k b (List.mem_append_left _ hb)) a) (OwAll.mono e (fun b hb => k b (List.mem_append_right _ hb)) r) d
end
mutual
theorem Ow.there {G H : Hp} : ∀ {L : List Addr} {v : V} {d : Dt}, Ow G H L v d → ∀ b ∈ L, H b ≠ none
  | _, _, _, .val _, _, hb => nomatch hb
  | _, _, _, .frz _, _, hb => nomatch hb
  | _, _, _, .nod h r n, b, hb => by
    rcases List.mem_cons.mp hb with rfl | hb
    · exact some_ne h
    · exact OwAll.there r b hb
theorem OwAll.there {G H : Hp} : ∀ {L : List Addr} {vs : List V} {ds : List Dt}, OwAll G H L vs ds → ∀ b ∈ L, H b ≠ none
  | _, _, _, .nil, _, hb => nomatch hb
  | _, _, _, .cons a r d, b, hb => by
    rcases List.mem_append.mp hb with hb | hb
    · exact Ow.there a b hb
    · exact OwAll.there r b hb
end
theorem OwAll.len {G H : Hp} : ∀ {L : List Addr} {vs : List V} {ds : List Dt}, OwAll G H L vs ds → vs.length = ds.length
  | _, _, _, .nil => rfl
  | _, _, _, .cons _ r _ => congrArg Nat.succ r.len
theorem OwAll.snoc {G H : Hp} {L1 : List Addr} {v : V} {d : Dt} (h : Ow G H L1 v d) : ∀ {L : List Addr} {vs : List V} {ds : List Dt}, OwAll G H L vs ds → (∀ b ∈ L, b ∉ L1) → OwAll G H (L ++ L1) (vs ++ [v]) (ds ++ [d])
  | _, _, _, .nil, _ => by
    have z : OwAll G H (L1 ++ []) [v] [d] := .cons h .nil (fun _ _ z => nomatch z)
    rw [List.append_nil] at z
    exact z
  | _, _, _, .cons (L1 := La) (L2 := Lb) a r n, k => by
    have z := OwAll.cons a (OwAll.snoc h r fun b hb => k b (List.mem_append_right _ hb)) (fun b hb q => by
      rcases List.mem_append.mp q with q | q
      · exact n b hb q
      · exact k b (List.mem_append_left _ hb) q)
    rw [← List.append_assoc] at z
    exact z
theorem OwAll.app {G H : Hp} {L2 : List Addr} {ws : List V} {es : List Dt} (h : OwAll G H L2 ws es) : ∀ {L : List Addr} {vs : List V} {ds : List Dt}, OwAll G H L vs ds → (∀ b ∈ L, b ∉ L2) → OwAll G H (L ++ L2) (vs ++ ws) (ds ++ es)
  | _, _, _, .nil, _ => h
  | _, _, _, .cons (L1 := La) (L2 := Lb) a r n, k => by
    have z := OwAll.cons a (OwAll.app h r fun b hb => k b (List.mem_append_right _ hb)) (fun b hb q => by
      rcases List.mem_append.mp q with q | q
      · exact n b hb q
      · exact k b (List.mem_append_left _ hb) q)
    rw [← List.append_assoc] at z
    exact z
/-! ### trees that are data -/
mutual
inductive Dd : Dt → PyData → Prop
  | non : Dd (.val .non) .none
  | bl (b : Bool) : Dd (.val (.bl b)) (.bool b)
  | int (i : Int) : Dd (.val (.int i)) (.int i)
  | str (x : Str) : Dd (.val (.str x)) (.str x)
  | frz (d : PyData) : Dd (.frz d) d
  | lst {xs : List Dt} {ds : List PyData} : DdAll xs ds → Dd (.nod .lst xs) (.list ds)
  | tup {xs : List Dt} {ds : List PyData} : DdAll xs ds → Dd (.nod .tup xs) (.tuple ds)
inductive DdAll : List Dt → List PyData → Prop
  | nil : DdAll [] []
  | cons {x : Dt} {xs : List Dt} {d : PyData} {ds : List PyData} : Dd x d → DdAll xs ds → DdAll (x :: xs) (d :: ds)
end
mutual
/-- read in any heap that holds its nodes -/
theorem Ow.rp {G H I : Hp} (e : Same G I) : ∀ {L : List Addr} {v : V} {d : Dt} {p : PyData}, Keeps L H I → Ow G H L v d → Dd d p → Rp I v p
  | _, _, _, _, _, .val _, .non => .non
  | _, _, _, _, _, .val _, .bl b => .bl b
  | _, _, _, _, _, .val _, .int i => .int i
  | _, _, _, _, _, .val _, .str x => .str x
  | _, _, _, _, _, .frz r, .frz _ => r.mono e
  | _, _, _, _, k, .nod h r _, .lst q => .lst (k _ List.mem_cons_self _ h) (OwAll.rp e (fun b hb => k b (List.mem_cons_of_mem _ hb)) r q)
  | _, _, _, _, k, .nod h r _, .tup q => .tup (k _ List.mem_cons_self _ h) (OwAll.rp e (fun b hb => k b (List.mem_cons_of_mem _ hb)) r q)
theorem OwAll.rp {G H I : Hp} (e : Same G I) : ∀ {L : List Addr} {vs : List V} {ds : List Dt} {ps : List PyData}, Keeps L H I → OwAll G H L vs ds → DdAll ds ps → RpAll I vs ps
  | _, _, _, _, _, .nil, .nil => .nil
  | _, _, _, _, k, .cons a r _, .cons x xs => .cons (Ow.rp e (fun b hb => k b (List.mem_append_left _ hb)) a x) (OwAll.rp e (fun b hb => k b (List.mem_append_right _ hb)) r xs)
end
def oI (i : Int) : Dt := .val (.int i)
def oB (b : Bool) : Dt := .val (.bl b)
def oF {α : Type} (f : α → PyData) (x : α) : Dt := .frz (f x)
def oL {α : Type} (f : α → Dt) (xs : List α) : Dt := .nod .lst (xs.map f)
def EncO {α : Type} (f : α → Dt) (g : α → PyData) : Prop := ∀ x, Dd (f x) (g x)
theorem encO_I : EncO oI PyData.int := fun i => .int i
theorem encO_B : EncO oB PyData.bool := fun i => .bl i
theorem encO_F {α : Type} {f : α → PyData} : EncO (oF f) f := fun _ => .frz _
theorem EncO.all {α : Type} {f : α → Dt} {g : α → PyData} (h : EncO f g) : ∀ xs : List α, DdAll (xs.map f) (xs.map g)
  | [] => .nil
  | x :: xs => .cons (h x) (EncO.all h xs)
theorem encO_L {α : Type} {f : α → Dt} {g : α → PyData} (h : EncO f g) : EncO (oL f) (encL g) := fun xs => .lst (h.all xs)
theorem keeps_same {L : List Addr} {H H' : Hp} (e : Same H H') : Keeps L H H' := fun b _ o q => e b o q
theorem keeps_refl {L : List Addr} {H : Hp} : Keeps L H H := fun _ _ _ q => q
theorem keeps_mut {L : List Addr} {H H' : Hp} {m : Addr} (x : SameX m H H') (n : ∀ b ∈ L, b ≠ m) : Keeps L H H' := fun b hb o q => x b o q (n b hb)
theorem keeps_muts {L M : List Addr} {H H' : Hp} (x : SameXs M H H') (n : ∀ b ∈ L, b ∉ M) : Keeps L H H' := fun b hb o q => x b o q (n b hb)
theorem keeps_hide {L M : List Addr} {H : Hp} (n : ∀ b ∈ L, b ∉ M) : Keeps L H (hideL M H) := fun b hb o q => by
  rw [hideL_out (n b hb)]
  exact q
section
variable {α : Type} {f : α → Dt} {g : α → PyData} {G H I : Hp} {L : List Addr} {vs : List V} {xs : List α}
theorem OwAll.rpA (w : OwAll G H L vs (xs.map f)) (h : EncO f g) (e : Same G H) : RpAll H vs (xs.map g) := OwAll.rp e keeps_refl w (h.all xs)
theorem OwAll.rpH (w : OwAll G H L vs (xs.map f)) (h : EncO f g) (e : Same G I) (k : Keeps L H I) : RpAll I vs (xs.map g) := OwAll.rp e k w (h.all xs)
theorem OwAll.lenM (w : OwAll G H L vs (xs.map f)) : vs.length = xs.length := by rw [w.len, List.length_map]
theorem OwAll.snocM {L1 : List Addr} {v : V} {y : α} (w : OwAll G H L vs (xs.map f)) (h : Ow G H L1 v (f y)) (n : ∀ b ∈ L, b ∉ L1) : OwAll G H (L ++ L1) (vs ++ [v]) ((xs ++ [y]).map f) := by
  rw [List.map_append]
  exact OwAll.snoc h w n
theorem Ow.ints {a : Addr} {ys : List Int} (h : H a = some (.lst (ys.map V.int))) : Ow G H [a] (.ref a) (oL oI ys) := by
  have z : ∀ ys : List Int, OwAll G H [] (ys.map V.int) (ys.map oI) := fun ys => by
    induction ys with
    | nil => exact .nil
    | cons y r ih => exact .cons (L1 := []) (L2 := []) (.val _) ih (fun _ z => nomatch z)
  exact .nod (k := .lst) h (z ys) (fun z => nomatch z)
theorem Ow.list {a : Addr} {xs : List α} {L : List Addr} {vs : List V} (h : H a = some (.lst vs)) (w : OwAll G H L vs (xs.map f)) (n : ∀ b ∈ L, b ≠ a) : Ow G H (a :: L) (.ref a) (oL f xs) := .nod (k := .lst) h w (fun z => n a z rfl)
theorem Ow.toList {v : V} {L : List Addr} {xs : List α} (w : Ow G H L v (oL f xs)) : ∃ a vs L', v = .ref a ∧ L = a :: L' ∧ H a = some (.lst vs) ∧ OwAll G H L' vs (xs.map f) ∧ ∀ b ∈ L', b ≠ a := by
  unfold oL at w
  cases w with
  | nod h r n => exact ⟨_, _, _, rfl, rfl, h, r, fun b hb z => n (z ▸ hb)⟩
theorem OwAll.toInts : ∀ {L : List Addr} {vs : List V} {xs : List Int}, OwAll G H L vs (xs.map oI) → L = [] ∧ vs = xs.map V.int
  | _, _, [], .nil => ⟨rfl, rfl⟩
  | _, _, x :: xs, .cons a r _ => by
    obtain ⟨h1, h2⟩ := OwAll.toInts r
    cases a
    exact ⟨by rw [h1] <;> rfl, by rw [h2] <;> rfl⟩
theorem Ow.toInts {v : V} {L : List Addr} {xs : List Int} (w : Ow G H L v (oL oI xs)) : ∃ a, v = .ref a ∧ L = [a] ∧ H a = some (.lst (xs.map V.int)) := by
  obtain ⟨a, vs, L', rfl, rfl, h, r, _⟩ := w.toList
  obtain ⟨rfl, rfl⟩ := r.toInts
  exact ⟨a, rfl, rfl, h⟩
/-- the part at a place, and how a change of it alone changes the whole -/
theorem OwAll.part : ∀ {L : List Addr} {vs : List V} {ds : List Dt} {i : Nat} {d : Dt}, OwAll G H L vs ds → ds[i]? = some d → ∃ v L1, vs[i]? = some v ∧ Ow G H L1 v d ∧ (∀ b ∈ L1, b ∈ L) ∧
    ∀ H' d', (∀ b ∈ L, b ∉ L1 → ∀ o, H b = some o → H' b = some o) → Ow G H' L1 v d' → OwAll G H' L vs (ds.set i d')
  | _, _, _, _, _, .nil, h => by simp at h
  | _, _, _, 0, _, .cons (L1 := La) (L2 := Lb) a r n, h => by
    simp at h
    subst h
    refine ⟨_, La, rfl, a, fun b hb => List.mem_append_left _ hb, fun H' d' k w => ?_⟩
    exact .cons w (OwAll.mono (Same.refl G) (fun b hb => k b (List.mem_append_right _ hb) fun z => n b z hb) r) n
  | _, _, _, i + 1, _, .cons (L1 := La) (L2 := Lb) a r n, h => by
    obtain ⟨v, L1, h1, h2, h3, h4⟩ := OwAll.part (i := i) r (by simpa using h)
    refine ⟨v, L1, by simpa using h1, h2, fun b hb => List.mem_append_right _ (h3 b hb), fun H' d' k w => ?_⟩
    refine .cons (Ow.mono (Same.refl G) (fun b hb => k b (List.mem_append_left _ hb) fun z => n b hb (h3 b z)) a) (h4 H' d' (fun b hb nb => k b (List.mem_append_right _ hb) nb) w) n
/-- the same, where the part grows: its new footprint is the old one and what is new -/
theorem OwAll.part2 : ∀ {L : List Addr} {vs : List V} {ds : List Dt} {i : Nat} {d : Dt}, OwAll G H L vs ds → ds[i]? = some d → ∃ v L1, vs[i]? = some v ∧ Ow G H L1 v d ∧ (∀ b ∈ L1, b ∈ L) ∧
    (∀ H' d', (∀ b ∈ L, b ∉ L1 → ∀ o, H b = some o → H' b = some o) → Ow G H' L1 v d' → OwAll G H' L vs (ds.set i d')) ∧
    ∀ H' d' Fv L1', (∀ b ∈ L, b ∉ L1 → ∀ o, H b = some o → H' b = some o) → (∀ b ∈ L1', b ∈ L1 ++ Fv) → (∀ b ∈ Fv, b ∉ L) → Ow G H' L1' v d' → ∃ L', (∀ b ∈ L', b ∈ L ++ Fv) ∧ OwAll G H' L' vs (ds.set i d')
  | _, _, _, _, _, .nil, h => by simp at h
  | _, _, _, 0, _, .cons (L1 := La) (L2 := Lb) a r n, h => by
    simp at h
    subst h
    refine ⟨_, La, rfl, a, fun b hb => List.mem_append_left _ hb, fun H' d' k w => ?_, fun H' d' Fv L1' k s nf w => ⟨L1' ++ Lb, fun b hb => ?_, ?_⟩⟩
    · exact .cons w (OwAll.mono (Same.refl G) (fun b hb => k b (List.mem_append_right _ hb) fun z => n b z hb) r) n
    · rcases List.mem_append.mp hb with hb | hb
      · rcases List.mem_append.mp (s b hb) with q | q
        · exact List.mem_append_left _ (List.mem_append_left _ q)
        · exact List.mem_append_right _ q
      · exact List.mem_append_left _ (List.mem_append_right _ hb)
    · refine .cons w (OwAll.mono (Same.refl G) (fun b hb => k b (List.mem_append_right _ hb) fun z => n b z hb) r) fun b hb q => ?_
      rcases List.mem_append.mp (s b hb) with z | z
      · exact n b z q
      · exact nf b z (List.mem_append_right _ q)
  | _, _, _, i + 1, _, .cons (L1 := La) (L2 := Lb) a r n, h => by
    obtain ⟨v, L1, h1, h2, h3, h4, h5⟩ := OwAll.part2 (i := i) r (by simpa using h)
    refine ⟨v, L1, by simpa using h1, h2, fun b hb => List.mem_append_right _ (h3 b hb), fun H' d' k w => ?_, fun H' d' Fv L1' k s nf w => ?_⟩
    · refine .cons (Ow.mono (Same.refl G) (fun b hb => k b (List.mem_append_left _ hb) fun z => n b hb (h3 b z)) a) (h4 H' d' (fun b hb nb => k b (List.mem_append_right _ hb) nb) w) n
    · obtain ⟨L', s2, z⟩ := h5 H' d' Fv L1' (fun b hb nb => k b (List.mem_append_right _ hb) nb) s (fun b hb q => nf b hb (List.mem_append_right _ q)) w
      refine ⟨La ++ L', fun b hb => ?_, .cons (Ow.mono (Same.refl G) (fun b hb => k b (List.mem_append_left _ hb) fun z => n b hb (h3 b z)) a) z fun b hb q => ?_⟩
      · rcases List.mem_append.mp hb with hb | hb
        · exact List.mem_append_left _ (List.mem_append_left _ hb)
        · rcases List.mem_append.mp (s2 b hb) with q | q
          · exact List.mem_append_left _ (List.mem_append_right _ q)
          · exact List.mem_append_right _ q
      · rcases List.mem_append.mp (s2 b q) with y | y
        · exact n b hb y
        · exact nf b y (List.mem_append_left _ hb)
theorem OwAll.partM [Inhabited α] {k : Int} (w : OwAll G H L vs (xs.map f)) (h : -(xs.length : Int) ≤ k ∧ k < xs.length) : ∃ v L1, atI vs k = some v ∧ Ow G H L1 v (f (itD xs k)) ∧ (∀ b ∈ L1, b ∈ L) ∧
    (∀ H' y, (∀ b ∈ L, b ∉ L1 → ∀ o, H b = some o → H' b = some o) → Ow G H' L1 v (f y) → OwAll G H' L vs ((setL xs k y).map f)) ∧
    ∀ H' y Fv L1', (∀ b ∈ L, b ∉ L1 → ∀ o, H b = some o → H' b = some o) → (∀ b ∈ L1', b ∈ L1 ++ Fv) → (∀ b ∈ Fv, b ∉ L) → Ow G H' L1' v (f y) → ∃ L', (∀ b ∈ L', b ∈ L ++ Fv) ∧ OwAll G H' L' vs ((setL xs k y).map f) := by
  obtain ⟨j, e, hj⟩ := ixN_some h
  have hx := List.getElem?_eq_getElem hj
  obtain ⟨v, L1, h1, h2, h3, h4, h5⟩ := OwAll.part2 (i := j) (d := f xs[j]) w (by rw [List.getElem?_map, hx] <;> rfl)
  have ei : itD xs k = xs[j] := by
    unfold itD atI
    rw [e]
    show (xs[j]?).getD default = _
    rw [hx] <;> rfl
  refine ⟨v, L1, ?_, by rw [ei]; exact h2, h3, fun H' y q w2 => ?_, fun H' y Fv L1' q s nf w2 => ?_⟩
  · unfold atI
    rw [w.lenM, e]
    exact h1
  · have z := h4 H' (f y) q w2
    unfold setL
    rw [e, List.map_set]
    exact z
  · obtain ⟨L', s2, z⟩ := h5 H' (f y) Fv L1' q s nf w2
    refine ⟨L', s2, ?_⟩
    unfold setL
    rw [e, List.map_set]
    exact z
theorem grow_keeps {L L1 : List Addr} {m : Addr} {H H1 H2 : Hp} (e : Same H H1) (x : SameX m H1 H2) (hm : m ∈ L1) : ∀ b ∈ L, b ∉ L1 → ∀ o, H b = some o → H2 b = some o := fun b _ n o q => x b o (e b o q) (fun z => n (z ▸ hm))
theorem grow_sub {a : Addr} {L' Lr Fv : List Addr} (h : ∀ b ∈ L', b ∈ Lr ++ Fv) : ∀ b ∈ a :: L', b ∈ (a :: Lr) ++ Fv := fun b hb => by
  rcases List.mem_cons.mp hb with rfl | hb
  · exact List.mem_cons_self
  · exact List.mem_cons_of_mem _ (h b hb)
/-- the item of a turn -/
theorem OwAll.turn {i : Nat} {v : V} (w : OwAll G H L vs (xs.map f)) (h : vs[i]? = some v) : ∃ x L1, xs[i]? = some x ∧ Ow G H L1 v (f x) ∧ ∀ b ∈ L1, b ∈ L := by
  have hl := get_len h
  have e := w.lenM
  have hx := List.getElem?_eq_getElem (show i < xs.length by omega)
  obtain ⟨v2, L1, h1, h2, h3, _⟩ := OwAll.part (i := i) (d := f xs[i]) w (by rw [List.getElem?_map, hx] <;> rfl)
  rw [h] at h1
  cases h1
  exact ⟨_, L1, hx, h2, h3⟩
end
/-! ### what is owned, in pieces -/
theorem all_app {P : Addr → Prop} {L l : List Addr} (h : ∀ x ∈ L, P x) (t : ∀ x ∈ l, P x) : ∀ x ∈ L ++ l, P x := fun x hx => by
  rcases List.mem_append.mp hx with q | q
  · exact h x q
  · exact t x q
theorem nm_nil {a : Addr} : a ∉ ([] : List Addr) := fun z => nomatch z
theorem nm_cons {a m : Addr} {l : List Addr} (h : a ≠ m) (t : a ∉ l) : a ∉ m :: l := fun z => by
  rcases List.mem_cons.mp z with q | q
  · exact h q
  · exact t q
theorem nm_app {a : Addr} {L l : List Addr} (h : a ∉ L) (t : a ∉ l) : a ∉ L ++ l := fun z => by
  rcases List.mem_append.mp z with q | q
  · exact h q
  · exact t q
theorem there_ne {H : Hp} {L : List Addr} {x : Addr} (t : ∀ b ∈ L, H b ≠ none) (n : H x = none) : ∀ b ∈ L, b ≠ x := fun b hb z => t b hb (z ▸ n)
theorem new_ne {H : Hp} {L : List Addr} {x : Addr} {o : HO} (n : ∀ b ∈ L, H b = none) (h : H x = some o) : ∀ b ∈ L, b ≠ x := fun b hb z => by
  have := n b hb
  rw [z, h] at this
  cases this
theorem new_nl {H : Hp} {L L2 : List Addr} (n : ∀ b ∈ L, H b = none) (t : ∀ b ∈ L2, H b ≠ none) : ∀ b ∈ L, b ∉ L2 := fun b hb z => t b z (n b hb)
theorem nl_symm {L L2 : List Addr} (h : ∀ b ∈ L, b ∉ L2) : ∀ b ∈ L2, b ∉ L := fun b hb z => h b z hb
theorem none_of_same {H H' : Hp} {x : Addr} (e : Same H H') (n : H' x = none) : H x = none := by
  cases q : H x with
  | none => rfl
  | some o =>
    rw [e x o q] at n
    cases n
section
variable {M : List Addr} {H0 G0 G H H' : Hp} {O L : List Addr} {p m : Addr} {o : HO}
theorem Sep.h0 (S : Sep M H0 G0 G H O) {b : Addr} (hb : b ∈ O) (hM : b ∉ M) : H0 b = none := (S.ow b hb).2.2.elim (fun z => (hM z).elim) id
theorem g_nl {a : Addr} {o : HO} (h : G a = some o) (S : Sep M H0 G0 G H O) (hL : ∀ b ∈ L, b ∈ O) : ∀ b ∈ L, b ≠ a := fun b hb => (g_ne h S (hL b hb)).symm
theorem b_nl {a : Addr} {o : HO} (h : (hideL M H0) a = some o) (S : Sep M H0 G0 G H O) (hL : ∀ b ∈ L, b ∈ O) : ∀ b ∈ L, b ≠ a := fun b hb => (b_ne h S (hL b hb)).symm
/-- a whole tree that is to stay as it is -/
theorem Sep.freezeL (S : Sep M H0 G0 G H O) {O' : List Addr} (hL : ∀ b ∈ L, b ∈ O) (h0 : ∀ b ∈ L, H0 b = none) (hO : ∀ b ∈ O', b ∈ O ∧ b ∉ L) : ∃ G', Same G G' ∧ Keeps L H G' ∧ Sep M H0 G0 G' H O' := by
  have gn : ∀ b ∈ L, G b = none := fun b hb => (S.ow b (hL b hb)).1
  refine ⟨fun b => if b ∈ L then H b else G b, fun b u q => ?_, fun b hb u q => ?_, S.base, S.pm, fun b u q => ?_, fun b u q => ?_, fun b hb gb => ?_, fun a ha => ?_⟩
  · have n : b ∉ L := fun z => by
      rw [gn b z] at q
      cases q
    show (if b ∈ L then H b else G b) = _
    rw [if_neg n]
    exact q
  · show (if b ∈ L then H b else G b) = _
    rw [if_pos hb]
    exact q
  · by_cases z : b ∈ L
    · exact (if_pos z).symm.trans q
    · exact S.sG b u ((if_neg z).symm.trans q)
  · have z : b ∉ L := fun z => by
      have := S.g0 b u q
      rw [gn b z] at this
      cases this
    show (if b ∈ L then H b else G b) = _
    rw [if_neg z]
    exact S.g0 b u q
  · have z : b ∉ L := fun z => hb (h0 b z)
    show (if b ∈ L then H b else G b) = _
    rw [if_neg z]
    exact S.gn b hb gb
  · obtain ⟨h1, h2⟩ := hO a ha
    refine ⟨?_, (S.ow a h1).2⟩
    show (if a ∈ L then H a else G a) = _
    rw [if_neg h2]
    exact (S.ow a h1).1
/-- a callee hands over a list of lists of its own making -/
theorem Sep.steptree (S : Sep M H0 G0 G H O) {G' : Hp} (e : Same H H') (eG : Same G G') (sG : Same G' H') (hn : ∀ b, H b ≠ none → G b = none → G' b = none) (L : List Addr) (hL : ∀ b ∈ L, H b = none ∧ G' b = none ∧ H' b ≠ none) : Sep M H0 G0 G' H' (L ++ O) := by
  have S2 := S.step e eG sG hn
  refine ⟨S2.base, S2.pm, S2.sG, S2.g0, S2.gn, all_app (fun b hb => ⟨(hL b hb).2.1, (hL b hb).2.2, .inr (S.free (hL b hb).1)⟩) S2.ow⟩
end
theorem Rp.list_of {α : Type} {g : α → PyData} {H : Hp} {a : Addr} {vs : List V} {xs : List α} (h : H a = some (.lst vs)) (r : RpAll H vs (xs.map g)) : Rp H (.ref a) (encL g xs) := .lst h r
/-! ### repr of data -/
mutual
def nodes : PyData → Nat
  | .list xs => 1 + nodesAll xs
  | .tuple xs => 1 + nodesAll xs
  | _ => 1
def nodesAll : List PyData → Nat
  | [] => 0
  | x :: xs => nodes x + nodesAll xs
end
mutual
def smallD : PyData → Bool
  | .none => true
  | .bool _ => true
  | .int i => decide (i.natAbs < 10 ^ 19)
  | .str x => decide ((reprText x).length ≤ 20)
  | .list xs => smallAll xs
  | .tuple xs => smallAll xs
  | _ => false
def smallAll : List PyData → Bool
  | [] => true
  | x :: xs => smallD x && smallAll xs
end
theorem piled_list (ts : List Str) : (listText ts).length ≤ piled ts + 2 := by
  cases ts with
  | nil => exact Nat.le_refl 2
  | cons t r =>
    have e : (listText (t :: r)).length = (textFrom 1 ("[" ++ ("" : String) ++ t) r).length + 1 := by
      show (textFrom 0 "[" (t :: r) ++ "]").length = _
      rw [strLen_append]
      rfl
    rw [e, textFrom_length_pos r 1 _ (by decide), piled_cons, strLen_append, strLen_append]
    have h1 : (("[" : String) : Str).length = 1 := rfl
    have h2 : (("" : String) : Str).length = 0 := rfl
    omega
theorem piled_tup (ts : List Str) : (tupleText ts).length ≤ piled ts + 3 := by
  unfold tupleText
  rw [strLen_append, strLen_append]
  have h1 : (("(" : String) : Str).length = 1 := rfl
  have h2 : (((if ts.length == 1 then ",)" else ")" : String) : Str)).length ≤ 2 := by split <;> decide
  by_cases h : ts = []
  · subst h
    exact Nat.le_of_lt (by decide)
  · have := join_length_add ts h
    omega
mutual
theorem small_shown : ∀ d : PyData, smallD d = true → d.shown.length + 4 ≤ 26 * nodes d ∧ d.showable = true ∧ d.hasDict = false
  | .none, _ => ⟨by simp only [PyData.shown, nodes]; decide, by simp [PyData.showable], by simp [PyData.hasDict]⟩
  | .bool b, _ => ⟨by cases b <;> simp only [PyData.shown, nodes] <;> decide, by simp [PyData.showable], by simp [PyData.hasDict]⟩
  | .int i, h => by
    have h : i.natAbs < 10 ^ 19 := by simpa [smallD] using h
    refine ⟨?_, ?_, by simp [PyData.hasDict]⟩
    · have := int_text_length_le10 (k := 19) (by decide) h
      simp only [PyData.shown, nodes]
      rw [PySem.ofString_length]
      omega
    · simp only [PyData.showable, decide_eq_true_eq]
      have : i.natAbs < 2 ^ 64 := by omega
      rcases Nat.eq_zero_or_pos i.natAbs with z | z
      · rw [z]
        decide
      · have := (Nat.log2_lt (by omega)).mpr this
        omega
  | .str x, h => by
    have h : (reprText x).length ≤ 20 := by simpa [smallD] using h
    refine ⟨by simp only [PyData.shown, nodes]; omega, by simp [PyData.showable], by simp [PyData.hasDict]⟩
  | .list xs, h => by
    obtain ⟨h1, h2, h3⟩ := small_shownAll xs (by simpa [smallD] using h)
    refine ⟨?_, by simpa [PyData.showable] using h2, by simpa [PyData.hasDict] using h3⟩
    have := piled_list (PyData.shownAll xs)
    simp only [PyData.shown, nodes]
    omega
  | .tuple xs, h => by
    obtain ⟨h1, h2, h3⟩ := small_shownAll xs (by simpa [smallD] using h)
    refine ⟨?_, by simpa [PyData.showable] using h2, by simpa [PyData.hasDict] using h3⟩
    have := piled_tup (PyData.shownAll xs)
    simp only [PyData.shown, nodes]
    omega
  | .dict kvs, h => by simp [smallD] at h
theorem small_shownAll : ∀ ds : List PyData, smallAll ds = true → piled (PyData.shownAll ds) ≤ 26 * nodesAll ds ∧ PyData.showableAll ds = true ∧ PyData.hasDictAll ds = false
  | [], _ => ⟨by simp [PyData.shownAll, nodesAll, piled], by simp [PyData.showableAll], by simp [PyData.hasDictAll]⟩
  | d :: ds, h => by
    have h : smallD d = true ∧ smallAll ds = true := by simpa [smallAll] using h
    obtain ⟨a1, a2, a3⟩ := small_shown d h.1
    obtain ⟨b1, b2, b3⟩ := small_shownAll ds h.2
    refine ⟨?_, by simp [PyData.showableAll, a2, b2], by simp [PyData.hasDictAll, a3, b3]⟩
    simp only [PyData.shownAll, nodesAll, piled_cons]
    omega
end
/-- data that repr may show -/
def ShowOk (d : PyData) : Prop := smallD d = true ∧ nodes d ≤ 600000 ∧ d.depth ≤ 60
instance (d : PyData) : Decidable (ShowOk d) := by unfold ShowOk; infer_instance
def rRepr : List V → Hp → VK → Prop := fun xs H Q => ∃ (a : Addr) (d : PyData), xs = [.ref a] ∧ Rp H (.ref a) d ∧ ShowOk d ∧ Q (.str d.shown) H
theorem call_reprD {X : Cx} (hg : X.A.guards = some []) (hu : X.A.units + 64 < cLine) : CallR X (.builtin "repr") rRepr := by
  intro pins s σ H xs us Q I r h
  obtain ⟨a, d, rfl, rp, ⟨ok, nd, dp⟩, q⟩ := h
  obtain ⟨h1, h2, h3⟩ := small_shown d ok
  cases r with
  | cons ra rn =>
    cases rn
    cases ra
    obtain ⟨as, reads⟩ := Dp.reads I d _ _ rp.dp rfl
    refine repr_of_reads' reads h2 (PyData.noDict_hsm h3) hg (by omega) (fun _ _ e => e) (fun h' u tk k => ⟨.str d.shown, H, I.kept k, ⟨u, rfl⟩, q⟩) ?_
    show d.shown.length ≤ 2 ^ 24
    omega
/-- small data: nodes, depth -/
def Sm (n k : Nat) (d : PyData) : Prop := smallD d = true ∧ nodes d ≤ n ∧ d.depth ≤ k
theorem Sm.imp {n k n' k' : Nat} {d : PyData} (h : Sm n k d) (a : n ≤ n') (b : k ≤ k') : Sm n' k' d := ⟨h.1, Nat.le_trans h.2.1 a, Nat.le_trans h.2.2 b⟩
theorem Sm.show {n k : Nat} {d : PyData} (h : Sm n k d) (a : n ≤ 600000 := by decide) (b : k ≤ 60 := by decide) : ShowOk d := h.imp a b
theorem sm_non : Sm 1 0 .none := ⟨by simp [smallD], by simp [nodes], by simp [PyData.depth]⟩
theorem sm_bool (b : Bool) : Sm 1 0 (.bool b) := ⟨by simp [smallD], by simp [nodes], by simp [PyData.depth]⟩
theorem sm_int {i : Int} (h : -10000000000000000000 < i ∧ i < 10000000000000000000) : Sm 1 0 (.int i) := ⟨by simp only [smallD, decide_eq_true_eq]; omega, by simp [nodes], by simp [PyData.depth]⟩
theorem sm_all {α : Type} {f : α → PyData} {n k : Nat} : ∀ {xs : List α}, (∀ x ∈ xs, Sm n k (f x)) → smallAll (xs.map f) = true ∧ nodesAll (xs.map f) ≤ xs.length * n ∧ PyData.depthAll (xs.map f) ≤ k
  | [], _ => ⟨by simp [smallAll], by simp [nodesAll], by simp [PyData.depthAll]⟩
  | x :: xs, h => by
    obtain ⟨a1, a2, a3⟩ := h x List.mem_cons_self
    obtain ⟨b1, b2, b3⟩ := sm_all fun y hy => h y (List.mem_cons_of_mem _ hy)
    refine ⟨by simp [smallAll, a1, b1], ?_, ?_⟩
    · simp only [List.map_cons, nodesAll, List.length_cons, Nat.succ_mul]
      omega
    · simp only [List.map_cons, PyData.depthAll]
      omega
theorem sm_L {α : Type} {f : α → PyData} {n k m : Nat} {xs : List α} (h : ∀ x ∈ xs, Sm n k (f x)) (hm : xs.length ≤ m) : Sm (1 + m * n) (k + 1) (encL f xs) := by
  obtain ⟨a1, a2, a3⟩ := sm_all h
  refine ⟨by simp [encL, smallD, a1], ?_, ?_⟩
  · have := Nat.mul_le_mul_right n hm
    simp only [encL, nodes]
    omega
  · simp only [encL, PyData.depth]
    omega
theorem sm_ints {xs : List Int} {m : Nat} (h : ∀ x ∈ xs, -10000000000000000000 < x ∧ x < 10000000000000000000) (hm : xs.length ≤ m) : Sm (1 + m * 1) 1 (encL PyData.int xs) := sm_L (fun x hx => sm_int (h x hx)) hm
theorem sm_T2 {α β : Type} {f : α → PyData} {g : β → PyData} {n k m j : Nat} {p : α × β} (h1 : Sm n k (f p.1)) (h2 : Sm m j (g p.2)) : Sm (1 + n + m) (max k j + 1) (encT2 f g p) := by
  obtain ⟨a1, a2, a3⟩ := h1
  obtain ⟨b1, b2, b3⟩ := h2
  refine ⟨by simp [encT2, smallD, smallAll, a1, b1], ?_, ?_⟩
  · simp only [encT2, nodes, nodesAll]
    omega
  · simp only [encT2, PyData.depth, PyData.depthAll]
    omega
theorem sm_T3 {α β γ : Type} {f : α → PyData} {g : β → PyData} {h : γ → PyData} {n k m j l i : Nat} {p : α × β × γ} (h1 : Sm n k (f p.1)) (h2 : Sm m j (g p.2.1)) (h3 : Sm l i (h p.2.2)) : Sm (1 + n + m + l) (max k (max j i) + 1) (encT3 f g h p) := by
  obtain ⟨a1, a2, a3⟩ := h1
  obtain ⟨b1, b2, b3⟩ := h2
  obtain ⟨c1, c2, c3⟩ := h3
  refine ⟨by simp [encT3, smallD, smallAll, a1, b1, c1], ?_, ?_⟩
  · simp only [encT3, nodes, nodesAll]
    omega
  · simp only [encT3, PyData.depth, PyData.depthAll]
    omega
end Vx
namespace Vx
open PySem PySem.Spec PyProof.Rows L2
theorem new_ne2 {H : Hp} {L : List Addr} {x : Addr} (n : ∀ b ∈ L, H b = none) (h : H x ≠ none) : ∀ b ∈ L, b ≠ x := fun b hb z => h (z ▸ n b hb)
theorem upd_tree {α : Type} {f : α → Dt} {G H H' : Hp} {L L1 : List Addr} {vs : List V} {xs : List α} {k : Int} {v : V} {m : Addr} {y : α} (up : ∀ H' y, (∀ b ∈ L, b ∉ L1 → ∀ o, H b = some o → H' b = some o) → Ow G H' L1 v (f y) → OwAll G H' L vs ((setL xs k y).map f)) (x : SameX m H H') (hm : m ∈ L1) (w : Ow G H' L1 v (f y)) :
    OwAll G H' L vs ((setL xs k y).map f) := up H' y (fun c _ n o q => x c o q (fun z => n (z ▸ hm))) w
theorem Ow.toFrz {α : Type} {f : α → PyData} {G H : Hp} {L : List Addr} {v : V} {x : α} (w : Ow G H L v (oF f x)) : L = [] ∧ Rp G v (f x) := by
  unfold oF at w
  cases w with
  | frz r => exact ⟨rfl, r⟩
section
variable {α : Type} {f : α → Dt} {G H : Hp} {L : List Addr} {vs : List V} {xs : List α}
theorem OwAll.pin {i : Nat} {v : V} {x : α} (w : OwAll G H L vs (xs.map f)) (h : vs[i]? = some v) (hx : xs[i]? = some x) : ∃ L1, Ow G H L1 v (f x) ∧ ∀ b ∈ L1, b ∈ L := by
  obtain ⟨y, L1, h1, h2, h3⟩ := OwAll.turn w h
  rw [hx] at h1
  cases h1
  exact ⟨L1, h2, h3⟩
theorem OwAll.pinInts {i : Nat} {b : Addr} {xs : List (List Int)} {x : List Int} (w : OwAll G H L vs (xs.map (oL oI))) (h : vs[i]? = some (.ref b)) (hx : xs[i]? = some x) : H b = some (.lst (x.map V.int)) ∧ b ∈ L := by
  obtain ⟨L1, w1, h1⟩ := OwAll.pin w h hx
  obtain ⟨c, e, rfl, h2⟩ := Ow.toInts w1
  cases e
  exact ⟨h2, h1 _ List.mem_cons_self⟩
end
end Vx
namespace Vx
open PySem PySem.Spec PyProof.Rows L2
theorem lookup_relab {c : Str → Bool} {y : Str} : ∀ l : List (Str × NameKind), (l.lookup y = some .cell ∨ l.lookup y = some .free) →
    ((l.map fun (n, k) => if (k == .free && c n) then (n, NameKind.cell) else (n, k)).lookup y = some .cell ∨ (l.map fun (n, k) => if (k == .free && c n) then (n, NameKind.cell) else (n, k)).lookup y = some .free)
  | [], h => by simp at h
  | (n, k) :: r, h => by
    rw [List.map_cons]
    dsimp only
    by_cases e : y == n
    · have hk : k = .cell ∨ k = .free := by
        rw [List.lookup_cons, e] at h
        simpa using h
      by_cases q : (k == .free && c n) = true
      · left
        rw [if_pos q, List.lookup_cons, e]
      · rw [if_neg q, List.lookup_cons, e]
        simpa using hk
    · have e : (y == n) = false := by simpa using e
      rw [List.lookup_cons, e] at h
      have ih := lookup_relab (c := c) r h
      by_cases q : (k == .free && c n) = true
      · rw [if_pos q, List.lookup_cons, e]
        exact ih
      · rw [if_neg q, List.lookup_cons, e]
        exact ih
theorem blk_relabel {N : List Str} {sc scope : Scope} {env : Env} {own : List (Str × Nat)} (h : BlkOk N sc scope own) : BlkOk N (relabel sc env) scope own := by
  refine ⟨h.kind, h.uniq, h.ix, fun y hy e => ?_, h.own⟩
  have z := lookup_relab (c := fun n => env.scope.kind == .function && env.kindOf n == some .cell) (y := y.1) sc.names (h.free y hy e)
  unfold relabel
  simpa only [Bool.and_assoc] using z
end Vx
namespace Vx
open PySem PySem.Spec PyProof.Rows L2
theorem FnG.low {P : Program} {w : World} {K : PySem.W.Frag} {mg : Str → Option Value} {base : Heap} {cx : CXT} {j k : Nat} {f : Addr} {fd : FuncData} {ps : List Str} {sp : Sp} (F : FnG P w K mg base cx j f fd ps sp) (h : j ≤ k) : FnG P w K mg base cx k f fd ps sp := ⟨F.len, fun A o s H a us vs Q E r => F.run A o s H a us vs Q E (r.low h)⟩
/-! ### a local name that holds one of several defs -/
structure HeldX (P : Program) (w : World) (K : PySem.W.Frag) (mg : Str → Option Value) (base : Heap) (k n : Nat) (f : Addr) (sp : Sp) : Prop where
  ex : ∃ (fd : FuncData) (ps : List Str), FnG P w K mg base (L2.CX P w) k f fd ps sp ∧ PySem.W.keepIn K (.ref f) = true ∧ Bnd K fd ps n [] (fun vs _ => vs)
theorem HeldX.of {P : Program} {w : World} {K : PySem.W.Frag} {mg : Str → Option Value} {base : Heap} {j k n : Nat} {x : Str} {sp : Sp} {pats : List Pat} {a : Addr} (c : CalX P w K mg base j x sp pats) (hx : mg x = some (.ref a)) (hp : (n, [], fun vs _ => vs) ∈ pats) (hj : j ≤ k) : HeldX P w K mg base k n a sp := by
  obtain ⟨f, fd, ps, F, hm, kp, b⟩ := c.ex
  rw [hx] at hm
  injection hm with hm
  injection hm with hm
  subst hm
  exact ⟨fd, ps, F.low hj, kp, b _ hp⟩
def tCallF (i n : Nat) (L : List (Addr × Sp)) (W : WX) (t : TA) : TE := fun σ H Q => ∃ f sp, σ[i]? = some (some (.ref f)) ∧ (f, sp) ∈ L ∧ t σ H fun vs H1 => vs.length = n ∧ ([] : List V).length = 0 ∧ sp vs H1 Q (WE W σ)
theorem vx_callF {X : Cx} {k j i n : Nat} {x : Str} {p pos : Pos} {e : Expr} {es : List Expr} {t : TA} {W : WX} (L : List (Addr × Sp)) (A : ∀ q ∈ L, HeldX X.prog X.w X.K X.mg X.base k n q.1 q.2) (hr : RoomG j X.A) (hk : k ≤ j) (tkW : Takes X W) (hN : X.N[i]? = some x) (hv : Vis X.env.scope x) (ha : PA X (e :: es) t)
    (hdb : (x == ("__debug__" : Str)) = false := by decide) (hcd : (x == ("__classdict__" : Str)) = false := by decide) (he : starEach (e :: es) X.env = (false, eval e X.env) :: starEach es X.env := by rfl) (hpl : (backTo pos (starEach es X.env)).any (·.1) = false := by rfl) :
    PE X (.Call (.Name x p) (e :: es) [] pos) (tCallF i n L W t) := by
  constructor
  intro pins s σ H Q I h
  obtain ⟨f, sp, slot, mem, rest⟩ := h
  obtain ⟨fd, ps, F, kp, b⟩ := (A _ mem).ex
  refine wpAny_Call_Name_kw (thn ((pe_var (pos := p) hN hv hdb hcd).run pins s σ H (fun v H1 => v = .ref f ∧ H1 = H) I ⟨.ref f, slot, rfl, rfl⟩) ?_)
  rintro u s1 ⟨v, H1, I1, r1, rfl, rfl⟩
  cases r1
  refine PySem.W.callWith_K (h₀ := X.base) I.ok.mod.kin kp (thn (ha.run pos pins s1 σ _ _ I1 rest) ?_) he hpl
  rintro us s2 ⟨vs, H2, I2, r, l1, l2, q⟩
  exact ⟨I2.kIn, run_X (us := us) (ws := []) (zs := []) F (hr.low hk) b tkW I2 r .nil l1 l2 q⟩
/-! ### the least of a list, the place of an item -/
def minL : List Int → Int
  | [] => 0
  | [x] => x
  | x :: y :: r => if x ≤ minL (y :: r) then x else minL (y :: r)
theorem minL_spec : ∀ (xs : List Int), xs ≠ [] → minL xs ∈ xs ∧ ∀ y ∈ xs, minL xs ≤ y
  | [], h => absurd rfl h
  | [x], _ => ⟨List.mem_cons_self, fun y hy => by rw [List.mem_singleton.mp hy]; exact Int.le_refl x⟩
  | x :: y :: r, _ => by
    obtain ⟨h1, h2⟩ := minL_spec (y :: r) (fun z => nomatch z)
    unfold minL
    split
    · refine ⟨List.mem_cons_self, fun z hz => ?_⟩
      rcases List.mem_cons.mp hz with rfl | hz
      · exact Int.le_refl _
      · have := h2 z hz
        omega
    · refine ⟨List.mem_cons_of_mem _ h1, fun z hz => ?_⟩
      rcases List.mem_cons.mp hz with rfl | hz
      · omega
      · exact h2 z hz
def maxL (xs : List Int) : Int := -(minL (xs.map fun x => -x))
theorem maxL_spec (xs : List Int) (h : xs ≠ []) : maxL xs ∈ xs ∧ ∀ y ∈ xs, y ≤ maxL xs := by
  obtain ⟨h1, h2⟩ := minL_spec (xs.map fun x => -x) (by simpa using h)
  obtain ⟨z, hz, e⟩ := List.mem_map.mp h1
  unfold maxL
  refine ⟨by rw [← e, Int.neg_neg]; exact hz, fun y hy => ?_⟩
  have := h2 _ (List.mem_map_of_mem hy)
  omega
section
variable {X : Cx} {K : PySem.W.Frag}
def rMinL (K : PySem.W.Frag) : List V → Hp → VK → Prop := fun vs H Q => ∃ (a : Addr) (ns : List Int), vs = [V.ref a] ∧ SqL K H a (ns.map V.int) ∧ ns ≠ [] ∧ Q (.int (minL ns)) H
def rMaxL (K : PySem.W.Frag) : List V → Hp → VK → Prop := fun vs H Q => ∃ (a : Addr) (ns : List Int), vs = [V.ref a] ∧ SqL K H a (ns.map V.int) ∧ ns ≠ [] ∧ Q (.int (maxL ns)) H
theorem cr_minL (hc : X.calm = true) (hK : X.K = K := by rfl) : CallR X (.builtin "min") (rMinL K) := by
  subst hK
  intro pins s σ H vs us Q I r h
  obtain ⟨a, ns, rfl, hs, hn, q⟩ := h
  refine cr_min hc pins s σ H _ us Q I r ⟨a, ns, rfl, hs, List.length_pos_iff.mpr hn, fun m hm hle => ?_⟩
  obtain ⟨h1, h2⟩ := minL_spec ns hn
  have e : m = minL ns := Int.le_antisymm (by have := hle _ h1; omega) (h2 m hm)
  rw [e]
  exact q
theorem cr_maxL (hc : X.calm = true) (hK : X.K = K := by rfl) : CallR X (.builtin "max") (rMaxL K) := by
  subst hK
  intro pins s σ H vs us Q I r h
  obtain ⟨a, ns, rfl, hs, hn, q⟩ := h
  refine cr_max hc pins s σ H _ us Q I r ⟨a, ns, rfl, hs, List.length_pos_iff.mpr hn, fun m hm hle => ?_⟩
  obtain ⟨h1, h2⟩ := maxL_spec ns hn
  have e : m = maxL ns := Int.le_antisymm (h2 m hm) (by have := hle _ h1; omega)
  rw [e]
  exact q
end
end Vx
namespace Vx
open PySem PySem.Spec PyProof.Rows L2
def idxL (ns : List Int) (i : Int) : Int := (ns.idxOf i : Nat)
def rIndexI (K : PySem.W.Frag) : V → List V → Hp → VK → Prop := fun x xs H Q => ∃ (a : Addr) (ns : List Int) (i : Int), x = V.ref a ∧ xs = [.int i] ∧ SqL K H a (ns.map V.int) ∧ i ∈ ns ∧ Q (.int (idxL ns i)) H
theorem mt_indexI {X : Cx} {K : PySem.W.Frag} (hK : X.K = K := by rfl) : MtR X "list.index" (rIndexI K) := by
  subst hK
  intro pins s σ H x xs v us Q I rx rxs h
  obtain ⟨a, ns, i, rfl, rfl, hs, hi, q⟩ := h
  have hl := List.idxOf_lt_length_of_mem hi
  refine mt_index pins s σ H _ _ v us Q I rx rxs ⟨a, _, .int i, ns.idxOf i, .int i, rfl, rfl, hs, rfl, flat_ints ns, ?_, by simp [eqV], fun m z hm hz => ?_, q⟩
  · rw [List.getElem?_map, List.getElem?_eq_getElem hl, List.getElem_idxOf hl] <;> rfl
  · rw [List.getElem?_map] at hz
    cases e : ns[m]? with
    | none => rw [e] at hz; cases hz
    | some y =>
      rw [e] at hz
      cases hz
      have hml : m < ns.length := by omega
      have hy : ns[m] = y := by
        rw [List.getElem?_eq_getElem hml] at e
        exact Option.some.inj e
      have := List.not_of_lt_findIdx (p := (· == i)) (xs := ns) (i := m) hm
      simp only [beq_iff_eq, hy] at this
      simp [eqV, this]
theorem cW_aftgo {σ ρ τ : Type} {s : σ} {kr : ρ → Rx τ} {k : σ → Rx τ} {K : τ → Prop} {E : Nat → Prop} (h : cW ((Lp.go s : Lp σ ρ).aft kr k) K E) : cW (k s) K E := h
end Vx
namespace Vx
open PySem PySem.Spec PyProof.Rows L2
/-! ### a truth value or a number beside a number -/
def Bi.num : Bi → Int
  | .b x => if x then 1 else 0
  | .n i => i
def Bi.dat : Bi → PyData
  | .b x => .bool x
  | .n i => .int i
section
variable {X : Cx}
def rEqBI : R2 := fun x y H Q => ∃ (b : Bi) (i : Int), x = biV b ∧ y = .int i ∧ Q (.bl (decide (b.num = i))) H
def rNeBI : R2 := fun x y H Q => ∃ (b : Bi) (i : Int), x = biV b ∧ y = .int i ∧ Q (.bl (!decide (b.num = i))) H
theorem eqv_bi (b : Bi) (i : Int) : PyData.eqv b.dat (.int i) = decide (b.num = i) := by
  cases b with
  | b x => cases x <;> (rw [Bool.eq_iff_iff]; simp [Bi.dat, Bi.num, PyData.eqv])
  | n j =>
    rw [Bool.eq_iff_iff]
    simp only [Bi.dat, Bi.num, PyData.eqv, beq_iff_eq]
    exact decide_eq_true_iff.symm
theorem dp_bi {K : PySem.W.Frag} {H : Hp} : ∀ b : Bi, Dp K H (biV b) b.dat
  | .b x => .bl x
  | .n i => .int i
theorem shaped_bi : ∀ b : Bi, SeqAt.shaped b.dat = true
  | .b x => by unfold SeqAt.shaped; simp [Bi.dat, PyData.canLay0, PyData.depth]
  | .n i => by unfold SeqAt.shaped; simp [Bi.dat, PyData.canLay0, PyData.depth]
theorem op_eqBI (hu : X.A.units + 64 < cLine) : OpR X (compareOp .Eq) rEqBI := by
  intro pins s σ H x y v u Q I rx ry h
  obtain ⟨b, i, rfl, rfl, q⟩ := h
  exact op_eqD hu pins s σ H _ _ v u Q I rx ry ⟨b.dat, .int i, dp_bi b, .int i, shaped_bi b, shaped_bi (.n i), by rw [eqv_bi]; exact q⟩
theorem op_neBI (hu : X.A.units + 64 < cLine) : OpR X (compareOp .NotEq) rNeBI := by
  intro pins s σ H x y v u Q I rx ry h
  obtain ⟨b, i, rfl, rfl, q⟩ := h
  exact op_neD hu pins s σ H _ _ v u Q I rx ry ⟨b.dat, .int i, dp_bi b, .int i, shaped_bi b, shaped_bi (.n i), by rw [eqv_bi]; exact q⟩
end
end Vx
namespace Vx
open PySem PySem.Spec PyProof.Rows L2
/-! ### == of own objects by an own __eq__ that never raises -/
section
variable {X : Cx} {k j : Nat}
def rEqX (C : Addr) (n mm : Nat) (sp : Sp) (g : List V → List V → List V) : R2 := fun x y H Q => ∃ (a b dx dy : Addr) (fs gs : List (Str × V)), x = .ref a ∧ y = .ref b ∧ H a = some (.ins C dx fs) ∧ H b = some (.ins C dy gs) ∧ 2 = n ∧ 0 = mm ∧ sp (g [x, y] []) H (fun v H' => (∃ r, v = .bl r) ∧ Q v H') E0
theorem op_eqX {C : Addr} {sp : Sp} {pats : List Pat} (c : MetX X.prog X.w X.K X.mg X.base k C "__eq__" sp pats) (pt : Pat) (hpt : pt ∈ pats) (hr : RoomG j X.A) (hk : k ≤ j) (hks : pt.2.1 = [] := by rfl) : OpR X (compareOp .Eq) (rEqX C pt.1 pt.2.1.length sp pt.2.2) := by
  intro pins s σ H x y v u Q I rx ry hq
  obtain ⟨a, b, dx, dy, fs, gs, rfl, rfl, ha, hb', l1, l2, q⟩ := hq
  obtain ⟨f, fd, ps, hc, hm, F, bb⟩ := c.ex
  cases rx
  cases ry
  obtain ⟨mA, J, _⟩ := ins_get I.hok ha
  obtain ⟨mB, J', _⟩ := ins_get I.hok hb'
  obtain ⟨od, J, _⟩ := J.look
  obtain ⟨od', J', _⟩ := J'.look
  obtain ⟨m, hF⟩ := I.fr
  have hz := run_X (us := [.ref a, .ref b]) (vs := [.ref a, .ref b]) (ws := []) (zs := []) F (hr.low hk) (bb pt hpt) (takes0 (X := X)) I (.cons rfl (.cons rfl .nil)) .nil l1 l2 q
  rw [hks] at hz
  show wpAny (model X.prog X.w) X.A (richCompare .Eq (.ref a) (.ref b)) (EP X pins σ Q) X.xe s
  refine PySem.W.cmp_K (op := .Eq) (tb := .ref C) (hr.low hk).toRoom.units0 hF I.ok.mod.kin J J'.type (by simp [PySem.W.notFirst]) hm.at_ hm.fn ?_
  refine wpAny_mono hz (fun r s' z => ?_) fun _ _ e => e
  obtain ⟨w, H', I', rw', ⟨⟨q1, rfl⟩, q2⟩⟩ := z
  cases rw'
  exact ⟨V.bl q1, H', I', rfl, q2⟩
end
end Vx
namespace Vx
open PySem PySem.Spec PyProof.Rows L2
/-! ### isinstance of the exception in hand: a built-in class, a tuple of classes -/
theorem kit_blt {K : PySem.W.Frag} {D : Addr} {T : String} {b : Bool} (h : PySem.W.subIn K (.ref D) (.type T) = some b) (h0 : PySem.W.kitMeta T = true := by decide +kernel) : PySem.W.kitOne K (.ref D) (.type T) = some b := by
  unfold PySem.W.kitOne
  rw [if_neg (show ¬ (Value.ref D == Value.type T) = true from fun z => nomatch (show false = true from z))]
  show (if PySem.W.kitMeta T = true then PySem.W.subIn K (.ref D) (.type T) else none) = some b
  rw [if_pos h0, h]
def rIsXB (K : PySem.W.Frag) (a : Addr) (cls : Value) (d : Option Addr) : List V → Hp → VK → Prop := fun xs H Q => ∃ (D : Addr) (T : String) (b : Bool), cls = .ref D ∧ d = none ∧ ExcC K D ∧ xs = [.ref a, .ty T] ∧ PySem.W.kitOne K (.ref D) (.type T) = some b ∧ Q (.bl b) H
theorem call_isXB {X : Cx} {K : PySem.W.Frag} {a : Addr} {cls : Value} {d : Option Addr} {oe : Obj} {pn : List (Addr × Obj)} (hz : Zc cls d oe) (hf : ∃ vs, oe.data = .fields vs) (hK : X.K = K := by rfl) : CallR (X.suite a ((a, oe) :: pn)) (.builtin "isinstance") (rIsXB K a cls d) := by
  subst hK
  intro pins s σ H xs us Q I r h
  obtain ⟨D, T, b, rfl, rfl, c, rfl, e, q⟩ := h
  exact call_isE c hz hf pins s σ H _ us Q I r ⟨_, _, b, rfl, fun u z => z, e, q⟩
def rIsXT (K : PySem.W.Frag) (a : Addr) (cls : Value) (d : Option Addr) : List V → Hp → VK → Prop := fun xs H Q => ∃ (D tp : Addr) (cs : List V) (ws : List Value) (b : Bool), cls = .ref D ∧ d = none ∧ ExcC K D ∧ xs = [.ref a, .ref tp] ∧ H tp = some (.tup cs) ∧ Paired ClsV cs ws ∧ PySem.W.kitAny K (.ref D) ws = some b ∧ Q (.bl b) H
theorem call_isXT {X : Cx} {K : PySem.W.Frag} {a : Addr} {cls : Value} {d : Option Addr} {oe : Obj} {pn : List (Addr × Obj)} (hz : Zc cls d oe) (hf : ∃ vs, oe.data = .fields vs) (hK : X.K = K := by rfl) : CallR (X.suite a ((a, oe) :: pn)) (.builtin "isinstance") (rIsXT K a cls d) := by
  subst hK
  intro pins s σ H xs us Q I r h
  obtain ⟨D, tp, cs, ws, b, rfl, rfl, C, rfl, hT, k, e, q⟩ := h
  cases r with
  | cons rx rr =>
    cases rr with
    | cons rt rr =>
      cases rr
      cases rx
      cases rt
      obtain ⟨hget, _⟩ := I.pin (a, oe) (List.mem_append.mpr (.inl List.mem_cons_self))
      obtain ⟨vs, hv⟩ := hf
      have J : PySem.W.InstAt s.heap a oe D none := by
        obtain ⟨oc, od, oda, osl⟩ := oe
        obtain ⟨h1, h2⟩ := hz
        dsimp only at h1 h2 hv
        subst h1 h2 hv
        exact ⟨hget, rfl, rfl, trivial⟩
      obtain ⟨_, its, rv, o, h1, h2, n, h3⟩ := (show ObjOk X.prog X.w H s.heap tp (.tup cs) from I.hok tp _ hT)
      have e3 := ClsV.all k rv
      subst e3
      obtain ⟨oc, od, dt, sl⟩ := o
      simp only at h2 h3
      subst h2 h3
      exact PySem.W.kia_tup (PySem.W.handS_kitx_exc C.hg C.hk C.hs C.hd C.ha C.hn C.ht C.hm) I.kIn J h1 e (fun z => nomatch z) fun tk => ⟨.bl b, H, I.kept (t' := tk) fun _ _ z => z, rfl, q⟩
theorem kit_self {K : PySem.W.Frag} {t : Value} (h : (t == t) = true := by simp) : PySem.W.kitOne K t t = some true := by
  unfold PySem.W.kitOne
  rw [if_pos h]
/-- what a class must say, so that isinstance asks its objects rightly -/
structure IsiC (K : PySem.W.Frag) (C : Addr) : Prop where
  ha : PySem.W.findIn K (.ref C) "__class__" = some (some (.builtin "object.__class__"))
  hn : PySem.W.specialIn K (.builtin "object.__class__") "__get__" = some (some (.builtin "getset_descriptor.__get__"))
  ht : PySem.W.takesIn K (.builtin "object.__class__") = some true
  hm : PySem.W.mroIn K C (.type "object") = some true
theorem tyX_ins {K : PySem.W.Frag} {H : Hp} {a C dx : Addr} {fs : List (Str × V)} (e : H a = some (.ins C dx fs)) (cl : Cls K C) (c : IsiC K C) : TyX K H (.ref a) (.ref C) := .base (.ins e cl c.ha c.hn c.ht c.hm)
end Vx
namespace Vx
open PySem PySem.Spec PyProof.Rows L2
theorem op_notTrue {X : Cx} : OpR X (compareOp .IsNot) (fun x y H Q => ∃ b : Bool, x = .bl b ∧ y = .bl true ∧ Q (.bl (!b)) H) := by
  intro pins s σ H x y v u Q I rx ry h
  obtain ⟨b, rfl, rfl, q⟩ := h
  cases rx
  cases ry
  show wpAny (model X.prog X.w) X.A (compareOp .IsNot (.bool b) (.bool true)) (EP X pins σ Q) X.xe s
  have e : compareOp .IsNot (.bool b) (.bool true) = pure (.bool (!b)) := by cases b <;> rfl
  rw [e]
  exact wpAny_pure ⟨.bl (!b), H, I, rfl, q⟩
end Vx
/-! # lists stored into trees -/
namespace Vx
open PySem PySem.Spec PyProof.Rows L2
section
variable {G H I : Hp} {α : Type} {f : α → Dt} {L : List Addr} {vs : List V} {xs : List α}
theorem OwAll.set {L1 : List Addr} {v : V} {d : Dt} (h : Ow G H L1 v d) : ∀ {L : List Addr} {vs : List V} {ds : List Dt} (i : Nat), i < ds.length → OwAll G H L vs ds → (∀ b ∈ L1, b ∉ L) → ∃ L', (∀ b ∈ L', b ∈ L ++ L1) ∧ OwAll G H L' (vs.set i v) (ds.set i d)
  | _, _, _, _, hi, .nil, _ => absurd hi (Nat.not_lt_zero _)
  | _, _, _, 0, _, .cons (L1 := La) (L2 := Lb) a r n, nf => by
    refine ⟨L1 ++ Lb, fun b hb => ?_, .cons h r fun b hb q => nf b hb (List.mem_append_right _ q)⟩
    rcases List.mem_append.mp hb with q | q
    · exact List.mem_append_right _ q
    · exact List.mem_append_left _ (List.mem_append_right _ q)
  | _, _, _, i + 1, hi, .cons (L1 := La) (L2 := Lb) a r n, nf => by
    obtain ⟨L', s, w⟩ := OwAll.set h i (Nat.lt_of_succ_lt_succ hi) r fun b hb q => nf b hb (List.mem_append_right _ q)
    refine ⟨La ++ L', fun b hb => ?_, .cons a w fun b hb q => ?_⟩
    · rcases List.mem_append.mp hb with q | q
      · exact List.mem_append_left _ (List.mem_append_left _ q)
      · rcases List.mem_append.mp (s b q) with z | z
        · exact List.mem_append_left _ (List.mem_append_right _ z)
        · exact List.mem_append_right _ z
    · rcases List.mem_append.mp (s b q) with z | z
      · exact n b hb z
      · exact nf b z (List.mem_append_left _ hb)
theorem ixN_len {k : Int} (e : vs.length = xs.length) (h : -(xs.length : Int) ≤ k ∧ k < xs.length) : ixN vs.length k = some ((ixN vs.length k).getD 0) := by
  rw [e]
  obtain ⟨j, hj, _⟩ := ixN_some h
  rw [hj]
  rfl
theorem OwAll.setM {k : Int} {L1 : List Addr} {v : V} {y : α} (w : OwAll G H L vs (xs.map f)) (h : -(xs.length : Int) ≤ k ∧ k < xs.length) (ow : Ow G H L1 v (f y)) (n : ∀ b ∈ L1, b ∉ L) :
    ∃ L', (∀ b ∈ L', b ∈ L ++ L1) ∧ OwAll G H L' (vs.set ((ixN vs.length k).getD 0) v) ((setL xs k y).map f) := by
  obtain ⟨j, e, hj⟩ := ixN_some h
  obtain ⟨L', s, z⟩ := OwAll.set ow j (by simpa using hj) w n
  refine ⟨L', s, ?_⟩
  unfold setL
  rw [w.lenM, e, List.map_set]
  exact z
end
theorem ne_of_len {α : Type} {xs : List α} (h : xs.length = 4 ∨ xs.length = 6 ∨ xs.length = 8) : xs ≠ [] := by
  rintro rfl
  simp at h
end Vx
namespace Vx
open PySem PySem.Spec PyProof.Rows L2
/-! ### written dicts of ints -/
inductive EI : List (Int × Int) → List DictEntry → Prop
  | nil : EI [] []
  | cons {k v : Int} {t u : Tok} {r : List (Int × Int)} {es : List DictEntry} (h : EI r es) : EI ((k, v) :: r) (⟨hashInt k, .int k t, .int v u⟩ :: es)
def lookI : List (Int × Int) → Int → Option Int
  | [], _ => none
  | (k, v) :: r, i => if i = k then some v else lookI r i
def KDI (K : PySem.W.Frag) (a : Addr) (kvs : List (Int × Int)) : Prop :=
  ∃ es n, K.lookup a = some ⟨.type "dict", none, .dict es n, #[]⟩ ∧ (a == sysModules) = false ∧ EI kvs es.toList
theorem lookI_mem {kvs : List (Int × Int)} {i : Int} : (lookI kvs i).isSome = decide (i ∈ kvs.map (·.1)) := by
  induction kvs with
  | nil => rfl
  | cons p r ih =>
    obtain ⟨k, v⟩ := p
    unfold lookI
    by_cases q : i = k
    · rw [if_pos q]; simp [q]
    · rw [if_neg q, ih]; simp [q]
theorem EI.find {i : Int} : ∀ {kvs : List (Int × Int)} {es : List DictEntry}, EI kvs es → match lookI kvs i with
    | some v => ∃ u, (es.find? fun e => keyIs (.inl i) e.key).map (·.val) = some (.int v u)
    | none => (es.find? fun e => keyIs (.inl i) e.key).map (·.val) = none
  | _, _, .nil => rfl
  | _, _, .cons (k := k) (v := v) (t := t) (u := u) (r := r) (es := es) h => by
    have ih := EI.find (i := i) h
    unfold lookI
    by_cases q : i = k
    · subst q
      rw [if_pos rfl]
      refine ⟨u, ?_⟩
      rw [List.find?_cons_of_pos (by exact keyIs_int i t)]
      rfl
    · rw [if_neg q]
      have e : ¬ (keyIs (.inl i) (Value.int k t) = true) := by
        intro z
        obtain ⟨t', e'⟩ := Value.isInt_shape (k := i) (v := Value.int k t) z
        injection e' with e1 _
        exact q e1.symm
      rw [List.find?_cons_of_neg (by exact e)]
      exact ih
theorem EI.keys {P : Program} {w : World} : ∀ {kvs : List (Int × Int)} {es : List DictEntry}, EI kvs es → ∀ e ∈ es, ∃ k, (mixKind P w).is k e.key = true ∧ e.hash = (mixKind P w).hash k
  | _, _, .nil, e, he => nomatch he
  | _, _, .cons (k := k) (t := t) h, e, he => by
    rcases List.mem_cons.mp he with rfl | he
    · exact ⟨.inl k, keyIs_int k t, rfl⟩
    · exact EI.keys h e he
section
variable {X : Cx} {K : PySem.W.Frag}
theorem KDI.map {d : Addr} {kvs : List (Int × Int)} {pins : List (Addr × Obj)} {σ : L2.St} {H : Hp} {s : Shared} (D : KDI X.K d kvs) (I : Inv X pins σ H s) : (d == sysModules) = false ∧ ∃ f, s.heap.MapOf (mixKind X.prog X.w) d f ∧ ∀ i, match lookI kvs i with
    | some v => ∃ u, f (.inl i) = some (.int v u)
    | none => f (.inl i) = none := by
  obtain ⟨es, n, hl, hd, he⟩ := D
  refine ⟨hd, fun k => findBy keyIs es k, ⟨_, es, n, I.kIn _ _ hl, ⟨rfl, rfl, rfl⟩, rfl, fun e q => EI.keys he e (Array.mem_toList_iff.mpr q), fun _ => rfl⟩, fun i => ?_⟩
  have := EI.find (i := i) he
  have e : findBy keyIs es (.inl i) = (es.toList.find? fun e => keyIs (.inl i) e.key).map (·.val) := by
    obtain ⟨l⟩ := es
    unfold findBy
    rw [List.find?_toArray]
  show match lookI kvs i with
    | some v => ∃ u, findBy keyIs es (.inl i) = some (.int v u)
    | none => findBy keyIs es (.inl i) = none
  rw [e]
  exact this
def rInDI (K : PySem.W.Frag) : R2 := fun x y H Q => ∃ (i : Int) (d : Addr) (kvs : List (Int × Int)) (ks : List Int), x = .int i ∧ y = .ref d ∧ KDI K d kvs ∧ ks = kvs.map (·.1) ∧ Q (.bl (decide (i ∈ ks))) H
def rNotInDI (K : PySem.W.Frag) : R2 := fun x y H Q => ∃ (i : Int) (d : Addr) (kvs : List (Int × Int)) (ks : List Int), x = .int i ∧ y = .ref d ∧ KDI K d kvs ∧ ks = kvs.map (·.1) ∧ Q (.bl (!decide (i ∈ ks))) H
def rIxDI (K : PySem.W.Frag) : R2 := fun x y H Q => ∃ (d : Addr) (i v : Int) (kvs : List (Int × Int)), x = .ref d ∧ y = .int i ∧ KDI K d kvs ∧ lookI kvs i = some v ∧ Q (.int v) H
theorem op_inDI (hK : X.K = K := by rfl) : OpR X (compareOp .In) (rInDI K) := by
  subst hK
  intro pins s σ H x y v u Q I rx ry h
  obtain ⟨i, d, kvs, ks, rfl, rfl, D, rfl, q⟩ := h
  rw [← lookI_mem] at q
  obtain ⟨t, rfl⟩ := rx
  cases ry
  obtain ⟨hd, f, hm, hf⟩ := D.map I
  refine wpAny_in_of (knd := mixKind X.prog X.w) (kV_is (k := .inl i) ⟨t, rfl⟩) hd hm ?_
  have e : (f (.inl i)).isSome = (lookI kvs i).isSome := by
    have := hf i
    split at this
    · next v hv => obtain ⟨u, hu⟩ := this; rw [hu, hv]; rfl
    · next hv => rw [this, hv]; rfl
  rw [e]
  exact ⟨.bl (lookI kvs i).isSome, H, I.tok _, rfl, q⟩
theorem op_notInDI (hK : X.K = K := by rfl) : OpR X (compareOp .NotIn) (rNotInDI K) := by
  subst hK
  intro pins s σ H x y v u Q I rx ry h
  obtain ⟨i, d, kvs, ks, rfl, rfl, D, rfl, q⟩ := h
  rw [← lookI_mem] at q
  obtain ⟨t, rfl⟩ := rx
  cases ry
  obtain ⟨hd, f, hm, hf⟩ := D.map I
  refine wpAny_notIn_of (knd := mixKind X.prog X.w) (kV_is (k := .inl i) ⟨t, rfl⟩) hd hm ?_
  have e : (f (.inl i)).isSome = (lookI kvs i).isSome := by
    have := hf i
    split at this
    · next v hv => obtain ⟨u, hu⟩ := this; rw [hu, hv]; rfl
    · next hv => rw [this, hv]; rfl
  rw [e]
  exact ⟨.bl (!(lookI kvs i).isSome), H, I.tok _, rfl, q⟩
theorem ix_DI (hK : X.K = K := by rfl) : IxR X (rIxDI K) := by
  subst hK
  intro value slice pins s σ H x y v u Q I rx ry h hs
  obtain ⟨p, i, r, kvs, rfl, rfl, D, e, q⟩ := h
  obtain rfl : v = Value.ref p := rx
  obtain ⟨t, rfl⟩ := ry
  obtain ⟨hd, f, hm, hf⟩ := D.map I
  have := hf i
  rw [e] at this
  obtain ⟨u, hu⟩ := this
  exact tail_any hm.typeIs slot_dict_getitem.lookup (wpAny_getItem_of (knd := mixKind X.prog X.w) (kV_is (k := .inl i) ⟨t, rfl⟩) hm hu ⟨.int r, H, I.tok _, ⟨_, rfl⟩, q⟩) hs
end
/-- the value at a key that is there -/
def dictI (kvs : List (Int × Int)) (i : Int) : Int := (lookI kvs i).getD 0
theorem lookI_at {kvs : List (Int × Int)} {i : Int} (h : i ∈ kvs.map (·.1)) : lookI kvs i = some (dictI kvs i) := by
  have := lookI_mem (kvs := kvs) (i := i)
  rw [decide_eq_true h] at this
  unfold dictI
  cases e : lookI kvs i with
  | none => rw [e] at this; cases this
  | some v => rfl
/-! ### walks over two lists, over numbered items, backwards -/
theorem pi_enumK {X : Cx} {K : PySem.W.Frag} {e : Expr} {ta : TA} {p pos tpos : Pos} {elts : List Expr} {kk : Nat} (hg : Gl X "enumerate") (hm : X.mg "enumerate" = none) (ha : PA X [e] ta) (hK : X.K = K := by rfl) (hs : starEach [e] X.env = [(false, eval e X.env)] := by rfl) :
    PI X (.Tuple elts kk tpos) (.Call (.Name "enumerate" p) [e] [] pos) (iEnum K ta) := hK ▸ pi_enum hg hm ha hs
section
variable {K : PySem.W.Frag} {a b : Addr} {xs ys : List V} {g : TG} {tb : TS} {tt : TT} {te : TE} {D : Ends} {σ : L2.St} {H H1 : Hp} {vs : List Nat} {DD : Addr} {Qd : Hp → Prop}
theorem for_enum (Pv : Nat → L2.St → Hp → Prop) (h0 : Pv 0 σ H) (hq : ∀ i σ H, Pv i σ H → SqL K H a xs)
    (hs : ∀ (i : Nat) (y : V) (T : Addr) (σ : L2.St) (H : Hp), xs[i]? = some y → H T = none → Pv i σ H → g (.ref T) σ (upd H T (.tup [.int (i : Nat), y])) fun σ2 H2 => tb { D with nx := Pv (i + 1), ct := Pv (i + 1), bk := D.nx } σ2 H2) (hd : ∀ σ H, Pv xs.length σ H → D.nx σ H) :
    ∃ W : Nat → Nat → L2.St → Hp → Prop, (∃ m, W 0 m σ H) ∧ ∀ i m σ H, W i m σ H →
      ((Ite K a).stop i H ∧ D.nx σ H) ∨ ((Ite K a).go i H ∧ ∃ N : L2.St → Hp → Prop, (∀ σ' H', N σ' H' → ∃ m', m' < m ∧ W (i + 1) m' σ' H') ∧ ∀ v H', (Ite K a).yld i H v H' → g v σ H' fun σ2 H2 => tb { D with nx := N, ct := N, bk := D.nx } σ2 H2) := by
  refine for_it walk_enum Pv h0 (fun i σ H _ p => hq i σ H p) (fun i x σ H H' hi p y => ?_) hd
  obtain ⟨T, x1, y1, rfl, hT, rfl, h1, h2⟩ := y
  cases h1
  exact hs i y1 T σ H h2 hT p
theorem lc_enum (Pv : Nat → Hp → Prop) (h0 : Pv 0 (upd H1 DD (.lst []))) (hq : ∀ i H, i ≤ xs.length → Pv i H → SqL K H a xs)
    (hs : ∀ (i : Nat) (y : V) (T : Addr) (H : Hp), xs[i]? = some y → H T = none → Pv i H → g (.ref T) (wipe σ vs) (upd H T (.tup [.int (i : Nat), y])) fun σ2 H2 => wipe σ2 vs = wipe σ vs ∧ tt σ2 H2 fun b H3 =>
      if b = true then te σ2 H3 fun y H4 => ∃ acc, H4 DD = some (.lst acc) ∧ acc.length < sizeLine ∧ Pv (i + 1) (upd H4 DD (.lst (acc ++ [y]))) else Pv (i + 1) H3) (hd : ∀ H, Pv xs.length H → Qd H) :
    ∃ W : Nat → Nat → Hp → Prop, (∃ m, W 0 m (upd H1 DD (.lst []))) ∧ ∀ i m H, W i m H →
      ((Ite K a).stop i H ∧ Qd H) ∨ ((Ite K a).go i H ∧ ∃ Nx : Hp → Prop, (∀ H', Nx H' → ∃ m', m' < m ∧ W (i + 1) m' H') ∧ ∀ x H', (Ite K a).yld i H x H' → g x (wipe σ vs) H' fun σ2 H2 => wipe σ2 vs = wipe σ vs ∧ tt σ2 H2 fun b H3 =>
        if b = true then te σ2 H3 fun y H4 => ∃ acc, H4 DD = some (.lst acc) ∧ acc.length < sizeLine ∧ Nx (upd H4 DD (.lst (acc ++ [y]))) else Nx H3) := by
  refine lc_it walk_enum Pv h0 hq (fun i x H H' hi p y => ?_) hd
  obtain ⟨T, x1, y1, rfl, hT, rfl, h1, h2⟩ := y
  cases h1
  exact hs i y1 T H h2 hT p
/-- zip of two lists of any lengths -/
theorem for_zipM (n : Nat) (hn : n = min xs.length ys.length) (Pv : Nat → L2.St → Hp → Prop) (h0 : Pv 0 σ H) (hq : ∀ i σ H, Pv i σ H → SqL K H a xs ∧ SqL K H b ys)
    (hs : ∀ (i : Nat) (x y : V) (T : Addr) (σ : L2.St) (H : Hp), xs[i]? = some x → ys[i]? = some y → H T = none → Pv i σ H → g (.ref T) σ (upd H T (.tup [x, y])) fun σ2 H2 => tb { D with nx := Pv (i + 1), ct := Pv (i + 1), bk := D.nx } σ2 H2) (hd : ∀ σ H, Pv n σ H → D.nx σ H) :
    ∃ W : Nat → Nat → L2.St → Hp → Prop, (∃ m, W 0 m σ H) ∧ ∀ i m σ H, W i m σ H →
      ((Itz K a b).stop i H ∧ D.nx σ H) ∨ ((Itz K a b).go i H ∧ ∃ N : L2.St → Hp → Prop, (∀ σ' H', N σ' H' → ∃ m', m' < m ∧ W (i + 1) m' σ' H') ∧ ∀ v H', (Itz K a b).yld i H v H' → g v σ H' fun σ2 H2 => tb { D with nx := N, ct := N, bk := D.nx } σ2 H2) := by
  refine for_it (walk_zip hn) Pv h0 (fun i σ H _ p => hq i σ H p) (fun i x σ H H' hi p y => ?_) hd
  obtain ⟨T, x1, y1, rfl, hT, rfl, h1, h2⟩ := y
  exact hs i x1 y1 T σ H h1 h2 hT p
theorem lc_zipM (n : Nat) (hn : n = min xs.length ys.length) (Pv : Nat → Hp → Prop) (h0 : Pv 0 (upd H1 DD (.lst []))) (hq : ∀ i H, i ≤ n → Pv i H → SqL K H a xs ∧ SqL K H b ys)
    (hs : ∀ (i : Nat) (x y : V) (T : Addr) (H : Hp), xs[i]? = some x → ys[i]? = some y → H T = none → Pv i H → g (.ref T) (wipe σ vs) (upd H T (.tup [x, y])) fun σ2 H2 => wipe σ2 vs = wipe σ vs ∧ tt σ2 H2 fun b H3 =>
      if b = true then te σ2 H3 fun y H4 => ∃ acc, H4 DD = some (.lst acc) ∧ acc.length < sizeLine ∧ Pv (i + 1) (upd H4 DD (.lst (acc ++ [y]))) else Pv (i + 1) H3) (hd : ∀ H, Pv n H → Qd H) :
    ∃ W : Nat → Nat → Hp → Prop, (∃ m, W 0 m (upd H1 DD (.lst []))) ∧ ∀ i m H, W i m H →
      ((Itz K a b).stop i H ∧ Qd H) ∨ ((Itz K a b).go i H ∧ ∃ Nx : Hp → Prop, (∀ H', Nx H' → ∃ m', m' < m ∧ W (i + 1) m' H') ∧ ∀ x H', (Itz K a b).yld i H x H' → g x (wipe σ vs) H' fun σ2 H2 => wipe σ2 vs = wipe σ vs ∧ tt σ2 H2 fun b H3 =>
        if b = true then te σ2 H3 fun y H4 => ∃ acc, H4 DD = some (.lst acc) ∧ acc.length < sizeLine ∧ Nx (upd H4 DD (.lst (acc ++ [y]))) else Nx H3) := by
  refine lc_it (walk_zip hn) Pv h0 hq (fun i x H H' hi p y => ?_) hd
  obtain ⟨T, x1, y1, rfl, hT, rfl, h1, h2⟩ := y
  exact hs i x1 y1 T H h1 h2 hT p
end
theorem zipM_len {α β : Type} {xs : List α} {ys : List β} : min xs.length ys.length = (xs.zip ys).length := by rw [List.length_zip]
theorem zipM_n {α β : Type} {vs ws : List V} {xs : List α} {ys : List β} (a : vs.length = xs.length) (b : ws.length = ys.length) : min xs.length ys.length = min vs.length ws.length := by rw [a, b]
def rListTK (K : PySem.W.Frag) : List V → Hp → VK → Prop := fun xs H Q => ∃ (p : Addr) (vs : List V), xs = [.ref p] ∧ SqT K H p vs ∧ ∀ l, H l = none → Q (.ref l) (upd H l (.lst vs))
theorem call_listTK {X : Cx} {K : PySem.W.Frag} (hK : X.K = K := by rfl) : CallR X (.type "list") (rListTK K) := by
  subst hK
  intro pins s σ H xs us Q I r h
  obtain ⟨p, vs, rfl, hs, q⟩ := h
  exact call_list_of pins s σ H _ us Q I r ⟨p, _, rfl, Or.inr hs, q⟩
/-- two lists that keep step -/
inductive F2 {α β : Type} (P : α → β → Prop) : List α → List β → Prop
  | nil : F2 P [] []
  | cons {a : α} {b : β} {l : List α} {m : List β} (h : P a b) (t : F2 P l m) : F2 P (a :: l) (b :: m)
theorem F2.get {α β : Type} {P : α → β → Prop} : ∀ {l : List α} {m : List β}, F2 P l m → ∀ (j : Nat), j < l.length → ∃ a b, l[j]? = some a ∧ m[j]? = some b ∧ P a b
  | _, _, .nil, j, h => absurd h (Nat.not_lt_zero _)
  | _, _, .cons h t, 0, _ => ⟨_, _, rfl, rfl, h⟩
  | _, _, .cons h t, j + 1, hj => t.get j (Nat.lt_of_succ_lt_succ hj)
theorem F2.at {α β : Type} [Inhabited α] [Inhabited β] {P : α → β → Prop} {l : List α} {m : List β} (h : F2 P l m) (k : Int) (h0 : 0 ≤ k) (h1 : k < l.length) : P (itD l k) (itD m k) := by
  obtain ⟨j, rfl⟩ : ∃ j : Nat, k = (j : Int) := ⟨k.toNat, by omega⟩
  obtain ⟨a, b, ha, hb, p⟩ := h.get j (by omega)
  have e1 : itD l (j : Int) = a := by unfold itD; rw [atI_nat ha]; rfl
  have e2 : itD m (j : Int) = b := by unfold itD; rw [atI_nat hb]; rfl
  rw [e1, e2]
  exact p
theorem SqT.cast {K : PySem.W.Frag} {H : Hp} {a : Addr} {xs ys : List V} (h : SqT K H a xs) (e : xs = ys) : SqT K H a ys := e ▸ h
/-- enumerate(xs) -/
def enumL {α : Type} (xs : List α) : List (Int × α) := (rng 0 xs.length).zip xs
theorem enumL_len {α : Type} (xs : List α) : (enumL xs).length = xs.length := by
  unfold enumL
  rw [List.length_zip, rng_len, Nat.min_self]
theorem enumL_get {α : Type} {xs : List α} {i : Nat} {x : α} (h : xs[i]? = some x) : (enumL xs)[i]? = some ((i : Int), x) := by
  have hl : i < xs.length := (List.getElem?_eq_some_iff.mp h).1
  unfold enumL
  rw [List.getElem?_zip_eq_some]
  refine ⟨?_, h⟩
  have := rng_get (lo := 0) hl
  rw [this]
  congr 1
  omega
end Vx
namespace Vx
open PySem PySem.Spec PyProof.Rows L2
theorem wipe_get : ∀ (σ : L2.St) (vs : List Nat) (j : Nat), (wipe σ vs)[j]? = if j ∈ vs ∧ j < σ.length then some none else σ[j]?
  | σ, [], j => by simp [wipe]
  | σ, v :: vs, j => by
    unfold wipe
    by_cases e : v = j
    · subst e
      by_cases h : v < σ.length
      · rw [List.getElem?_set_self (by rw [wipe_length]; exact h), if_pos ⟨List.mem_cons_self, h⟩]
      · rw [if_neg (fun z => h z.2), List.getElem?_eq_none (by rw [List.length_set, wipe_length]; omega), List.getElem?_eq_none (by omega)]
    · rw [List.getElem?_set_ne e, wipe_get σ vs j]
      have : (j ∈ v :: vs ∧ j < σ.length) ↔ (j ∈ vs ∧ j < σ.length) := by
        constructor
        · rintro ⟨h1, h2⟩
          rcases List.mem_cons.mp h1 with rfl | h1
          · exact absurd rfl e
          · exact ⟨h1, h2⟩
        · rintro ⟨h1, h2⟩
          exact ⟨List.mem_cons_of_mem _ h1, h2⟩
      by_cases q : j ∈ vs ∧ j < σ.length
      · rw [if_pos q, if_pos (this.mpr q)]
      · rw [if_neg q, if_neg (fun z => q (this.mp z))]
theorem wipe_wipe {σ : L2.St} {vs : List Nat} : wipe (wipe σ vs) vs = wipe σ vs := by
  apply List.ext_getElem?
  intro j
  rw [wipe_get (wipe σ vs), wipe_length]
  by_cases q : j ∈ vs ∧ j < σ.length
  · rw [if_pos q, wipe_get, if_pos q]
  · rw [if_neg q]
theorem wipe_set {σ : L2.St} {vs : List Nat} {v : Nat} {x : Option V} (h : v ∈ vs) : wipe (σ.set v x) vs = wipe σ vs := by
  apply List.ext_getElem?
  intro j
  rw [wipe_get, wipe_get, List.length_set]
  by_cases q : j ∈ vs ∧ j < σ.length
  · rw [if_pos q, if_pos q]
  · rw [if_neg q, if_neg q]
    by_cases e : v = j
    · subst e
      have hl : ¬ v < σ.length := fun z => q ⟨h, z⟩
      rw [List.getElem?_eq_none (by rw [List.length_set]; omega), List.getElem?_eq_none (by omega)]
    · rw [List.getElem?_set_ne e]
/-- a comprehension over a step range -/
theorem lc_rangeC {lo c : Int} {n : Nat} {g : TG} {tt : TT} {te : TE} {vs : List Nat} {σ : L2.St} {H1 : Hp} {D : Addr} {Qd : Hp → Prop} (Pv : Nat → Hp → Prop) (h0 : Pv 0 (upd H1 D (.lst [])))
    (hs : ∀ i H, i < n → Pv i H → g (.int (lo + (i : Nat) * c)) (wipe σ vs) H fun σ2 H2 => wipe σ2 vs = wipe σ vs ∧ tt σ2 H2 fun b H3 =>
      if b = true then te σ2 H3 fun y H4 => ∃ acc, H4 D = some (.lst acc) ∧ acc.length < sizeLine ∧ Pv (i + 1) (upd H4 D (.lst (acc ++ [y]))) else Pv (i + 1) H3) (hd : ∀ H, Pv n H → Qd H) :
    ∃ W : Nat → Nat → Hp → Prop, (∃ m, W 0 m (upd H1 D (.lst []))) ∧ ∀ i m H, W i m H →
      ((Itc lo c n).stop i H ∧ Qd H) ∨ ((Itc lo c n).go i H ∧ ∃ Nx : Hp → Prop, (∀ H', Nx H' → ∃ m', m' < m ∧ W (i + 1) m' H') ∧ ∀ x H', (Itc lo c n).yld i H x H' → g x (wipe σ vs) H' fun σ2 H2 => wipe σ2 vs = wipe σ vs ∧ tt σ2 H2 fun b H3 =>
        if b = true then te σ2 H3 fun y H4 => ∃ acc, H4 D = some (.lst acc) ∧ acc.length < sizeLine ∧ Nx (upd H4 D (.lst (acc ++ [y]))) else Nx H3) := by
  refine ⟨fun i m H => m = n - i ∧ i ≤ n ∧ Pv i H, ⟨n, by simp, Nat.zero_le _, h0⟩, ?_⟩
  rintro i m H ⟨rfl, hi, p⟩
  rcases Nat.lt_or_ge i n with hlt | hge
  · refine .inr ⟨hlt, Pv (i + 1), fun H' p' => ⟨n - (i + 1), by omega, rfl, hlt, p'⟩, fun x H' y => ?_⟩
    obtain ⟨e, y⟩ := y
    subst e y
    exact hs i _ hlt p
  · cases Nat.le_antisymm hi hge
    exact .inl ⟨Nat.le_refl _, hd H p⟩

/-! ### reversed(list of ints), any(list of ints) -/
theorem pi_revK {X : Cx} {K : PySem.W.Frag} {tg : Expr} {e : Expr} {ta : TA} {p pos : Pos} (hg : Gl X "reversed") (hm : X.mg "reversed" = none) (ha : PA X [e] ta) (hK : X.K = K := by rfl) (hs : starEach [e] X.env = [(false, eval e X.env)] := by rfl) :
    PI X tg (.Call (.Name "reversed" p) [e] [] pos) (iRev K ta) := hK ▸ pi_reversed hg hm ha hs
theorem for_revI {K : PySem.W.Frag} {a : Addr} {xs : List Int} {g : TG} {tb : TS} {D : Ends} {σ : L2.St} {H : Hp} (Pv : Nat → L2.St → Hp → Prop) (h0 : Pv 0 σ H) (hl : ∀ i σ H, i ≤ (xs.reverse.map V.int).length → Pv i σ H → SqL K H a (xs.map V.int))
    (hs : ∀ i x σ H, (xs.reverse.map V.int)[i]? = some x → Pv i σ H → g x σ H fun σ2 H2 => tb { D with nx := Pv (i + 1), ct := Pv (i + 1), bk := D.nx } σ2 H2) (hd : ∀ σ H, Pv (xs.reverse.map V.int).length σ H → D.nx σ H) :
    ∃ W : Nat → Nat → L2.St → Hp → Prop, (∃ m, W 0 m σ H) ∧ ∀ i m σ H, W i m σ H →
      ((Itv K a (xs.map V.int).length).stop i H ∧ D.nx σ H) ∨ ((Itv K a (xs.map V.int).length).go i H ∧ ∃ N : L2.St → Hp → Prop, (∀ σ' H', N σ' H' → ∃ m', m' < m ∧ W (i + 1) m' σ' H') ∧ ∀ x H', (Itv K a (xs.map V.int).length).yld i H x H' → g x σ H' fun σ2 H2 => tb { D with nx := N, ct := N, bk := D.nx } σ2 H2) := by
  have en : (xs.reverse.map V.int).length = (xs.map V.int).length := by rw [List.length_map, List.length_map, List.length_reverse]
  rw [en] at hl hd
  refine for_it walk_rev Pv h0 hl (fun i x σ H H' hi p y => ?_) hd
  obtain ⟨rfl, hx⟩ := y
  refine hs i x σ _ ?_ p
  rw [List.map_reverse, List.getElem?_reverse hi]
  exact hx
theorem ints_get : ∀ {ns : List Int} {us : List Value} {i : Nat} {v : Value}, IntsAre us ns → us[i]? = some v → ∃ t, v = .int (ns.getD i 0) t := by
  intro ns us i v h
  induction h generalizing i with
  | nil => intro z; simp at z
  | cons n t _ ih =>
    intro z
    cases i with
    | zero => simp at z; exact ⟨t, by rw [← z]; rfl⟩
    | succ i => exact ih (by simpa using z)
theorem any_rangeI : ∀ ns : List Int, (List.range ns.length).any (fun i => ns.getD i 0 != 0) = ns.any (fun x => x != 0)
  | [] => rfl
  | b :: bs => by
    rw [List.length_cons, List.range_succ_eq_map, List.any_cons, List.any_map, List.any_cons, ← any_rangeI bs]
    all_goals rfl
theorem ints_len : ∀ {ns : List Int} {us : List Value}, IntsAre us ns → us.length = ns.length := by
  intro ns us h
  induction h with
  | nil => rfl
  | cons _ _ _ ih => simp [ih]
def rAnyI (K : PySem.W.Frag) : List V → Hp → VK → Prop := fun vs H Q => ∃ (a : Addr) (ns : List Int), vs = [V.ref a] ∧ SqL K H a (ns.map V.int) ∧ Q (.bl (ns.any fun x => x != 0)) H
theorem cr_anyI {X : Cx} (hc : X.calm = true) : CallR X (.builtin "any") (rAnyI X.K) := by
  intro pins s σ H vs us Q I r h
  obtain ⟨a, ns, rfl, hs, q⟩ := h
  obtain ⟨its, rv, hl, _⟩ := I.list hs
  rw [Vals.ref1 r]
  have hb := rv.ints
  refine call_any_walk (iter_any hl.isList fun s₂ e2 st hne => ?_)
  subst e2
  have ht : TruthOf X.prog X.w X.A.in1 (fun i v => its.toArray[i]? = some v) (fun i => ns.getD i 0 != 0) := fun i v s Q E hv hq => by
    obtain ⟨t, rfl⟩ := ints_get hb (by simpa using hv)
    exact PyProof.Rows.truthy_int hq
  refine ⟨_, _, _, _, _, _, _, rfl, Walks.list (A := X.A.in1) (I.ok.hd hc) _ a hne its.toArray, st, ht, fun h' tk hk => ?_⟩
  refine ⟨.bl _, H, I.kept fun b o eo => hk b o (fun hmem => ?_) (Heap.get?_push_of_some _ eo), ?_, q⟩
  · rcases List.mem_cons.mp hmem with e1 | hmem
    · exact absurd (e1 ▸ Heap.lt_size eo) (Nat.lt_irrefl _)
    · cases hmem
  · show Value.bool _ = Value.bool _
    rw [← any_rangeI, List.size_toArray, ints_len hb]
theorem cr_anyIK {X : Cx} {K : PySem.W.Frag} (hc : X.calm = true) (hK : X.K = K := by rfl) : CallR X (.builtin "any") (rAnyI K) := hK ▸ cr_anyI hc
/-- an item of a list of data stored anew -/
theorem RpAll.setM {α : Type} {f : α → PyData} {G : Hp} {vs : List V} {xs : List α} {k : Int} {v : V} {y : α} (d : RpAll G vs (xs.map f)) (r : Rp G v (f y)) : RpAll G (vs.set ((ixN vs.length k).getD 0) v) ((setL xs k y).map f) := by
  have e : vs.length = xs.length := by rw [d.len, List.length_map]
  unfold setL
  rw [List.map_set, e]
  exact RpAll.set r _ d
end Vx
/-! # data of any shape: None beside data, tuples of several shapes -/
namespace Vx
open PySem PySem.Spec PyProof.Rows L2
def encD (d : PyData) : PyData := d
def encN (_ : Unit) : PyData := .none
def encT1 {α : Type} (f : α → PyData) (x : α) : PyData := .tuple [f x]
instance instInhD : Inhabited PyData := ⟨.none⟩
/-- a known shape: what is laid, what is read back, whether the data has the shape -/
structure Cst (α : Type) where
  enc : α → PyData
  dec : PyData → α
  ok : PyData → Bool
  h : ∀ d, ok d = true → enc (dec d) = d
  oke : ∀ x, ok (enc x) = true
  de : ∀ x, dec (enc x) = x
def cI : Cst Int := ⟨PyData.int, fun d => match d with | .int i => i | _ => 0, fun d => match d with | .int _ => true | _ => false, fun d h => (by cases d <;> first | rfl | (cases h)), fun _ => rfl, fun _ => rfl⟩
def cB : Cst Bool := ⟨PyData.bool, fun d => match d with | .bool i => i | _ => false, fun d => match d with | .bool _ => true | _ => false, fun d h => (by cases d <;> first | rfl | (cases h)), fun _ => rfl, fun _ => rfl⟩
def cS : Cst Str := ⟨PyData.str, fun d => match d with | .str i => i | _ => "", fun d => match d with | .str _ => true | _ => false, fun d h => (by cases d <;> first | rfl | (cases h)), fun _ => rfl, fun _ => rfl⟩
def cN : Cst Unit := ⟨encN, fun _ => (), fun d => match d with | .none => true | _ => false, fun d h => (by cases d <;> first | rfl | (cases h)), fun _ => rfl, fun _ => rfl⟩
def cD : Cst PyData := ⟨encD, fun d => d, fun _ => true, fun _ _ => rfl, fun _ => rfl, fun _ => rfl⟩
theorem map_dec {α : Type} (c : Cst α) : ∀ xs : List PyData, xs.all c.ok = true → (xs.map c.dec).map c.enc = xs
  | [], _ => rfl
  | x :: xs, h => by
    rw [List.all_cons, Bool.and_eq_true] at h
    rw [List.map_cons, List.map_cons, c.h x h.1, map_dec c xs h.2]
def cL {α : Type} (c : Cst α) : Cst (List α) where
  enc := encL c.enc
  dec := fun d => match d with | .list xs => xs.map c.dec | _ => []
  ok := fun d => match d with | .list xs => xs.all c.ok | _ => false
  h := fun d h => by
    cases d with
    | list xs => exact congrArg PyData.list (map_dec c xs h)
    | _ => cases h
  oke := fun x => by
    show (x.map c.enc).all c.ok = true
    rw [List.all_map, List.all_eq_true]
    exact fun a _ => c.oke a
  de := fun x => by
    show (x.map c.enc).map c.dec = x
    rw [List.map_map]
    have e : c.dec ∘ c.enc = id := funext c.de
    rw [e, List.map_id]
def cT1 {α : Type} (a : Cst α) : Cst α where
  enc := encT1 a.enc
  dec := fun d => match d with | .tuple [x] => a.dec x | _ => a.dec .none
  ok := fun d => match d with | .tuple [x] => a.ok x | _ => false
  h := fun d h => by
    split at h
    · next x => exact congrArg (fun z => PyData.tuple [z]) (a.h x h)
    · cases h
  oke := fun x => a.oke x
  de := fun x => a.de x
def cT2 {α β : Type} (a : Cst α) (b : Cst β) : Cst (α × β) where
  enc := encT2 a.enc b.enc
  dec := fun d => match d with | .tuple [x, y] => (a.dec x, b.dec y) | _ => (a.dec .none, b.dec .none)
  ok := fun d => match d with | .tuple [x, y] => a.ok x && b.ok y | _ => false
  h := fun d h => by
    split at h
    · next x y =>
      rw [Bool.and_eq_true] at h
      show PyData.tuple [a.enc (a.dec x), b.enc (b.dec y)] = _
      rw [a.h x h.1, b.h y h.2]
    · cases h
  oke := fun x => by show (a.ok (a.enc x.1) && b.ok (b.enc x.2)) = true; rw [a.oke, b.oke]; rfl
  de := fun x => by show (a.dec (a.enc x.1), b.dec (b.enc x.2)) = x; rw [a.de, b.de]
def cT3 {α β γ : Type} (a : Cst α) (b : Cst β) (c : Cst γ) : Cst (α × β × γ) where
  enc := encT3 a.enc b.enc c.enc
  dec := fun d => match d with | .tuple [x, y, z] => (a.dec x, b.dec y, c.dec z) | _ => (a.dec .none, b.dec .none, c.dec .none)
  ok := fun d => match d with | .tuple [x, y, z] => a.ok x && b.ok y && c.ok z | _ => false
  h := fun d h => by
    split at h
    · next x y z =>
      simp only [Bool.and_eq_true] at h
      show PyData.tuple [a.enc (a.dec x), b.enc (b.dec y), c.enc (c.dec z)] = _
      rw [a.h x h.1.1, b.h y h.1.2, c.h z h.2]
    · cases h
  oke := fun x => by show (a.ok (a.enc x.1) && b.ok (b.enc x.2.1) && c.ok (c.enc x.2.2)) = true; rw [a.oke, b.oke, c.oke]; rfl
  de := fun x => by show (a.dec (a.enc x.1), b.dec (b.enc x.2.1), c.dec (c.enc x.2.2)) = x; rw [a.de, b.de, c.de]
def cT4 {α β γ δ : Type} (a : Cst α) (b : Cst β) (c : Cst γ) (e : Cst δ) : Cst (α × β × γ × δ) where
  enc := encT4 a.enc b.enc c.enc e.enc
  dec := fun d => match d with | .tuple [x, y, z, w] => (a.dec x, b.dec y, c.dec z, e.dec w) | _ => (a.dec .none, b.dec .none, c.dec .none, e.dec .none)
  ok := fun d => match d with | .tuple [x, y, z, w] => a.ok x && b.ok y && c.ok z && e.ok w | _ => false
  h := fun d h => by
    split at h
    · next x y z w =>
      simp only [Bool.and_eq_true] at h
      show PyData.tuple [a.enc (a.dec x), b.enc (b.dec y), c.enc (c.dec z), e.enc (e.dec w)] = _
      rw [a.h x h.1.1.1, b.h y h.1.1.2, c.h z h.1.2, e.h w h.2]
    · cases h
  oke := fun x => by show (a.ok (a.enc x.1) && b.ok (b.enc x.2.1) && c.ok (c.enc x.2.2.1) && e.ok (e.enc x.2.2.2)) = true; rw [a.oke, b.oke, c.oke, e.oke]; rfl
  de := fun x => by show (a.dec (a.enc x.1), b.dec (b.enc x.2.1), c.dec (c.enc x.2.2.1), e.dec (e.enc x.2.2.2)) = x; rw [a.de, b.de, c.de, e.de]
section
variable {H : Hp} {v : V} {d : PyData}
theorem rp_dcast {α : Type} (c : Cst α) (g : c.ok d = true) (r : Rp H v d) : Rp H v (c.enc (c.dec d)) := by rw [c.h d g]; exact r
def dNone : PyData → Bool
  | .none => true
  | _ => false
def dSeq : PyData → Bool
  | .list _ => true
  | .tuple _ => true
  | _ => false
def dTup : PyData → Bool
  | .tuple _ => true
  | _ => false
def dLst : PyData → Bool
  | .list _ => true
  | _ => false
def dInt : PyData → Bool
  | .int _ => true
  | .bool _ => true
  | _ => false
def dBool : PyData → Bool
  | .bool _ => true
  | _ => false
def dGet : PyData → Nat → PyData
  | .tuple xs, k => xs.getD k .none
  | .list xs, k => xs.getD k .none
  | _, _ => .none
def dHasT : PyData → Nat → Bool
  | .tuple xs, k => decide (k < xs.length)
  | _, _ => false
theorem rp_ref (g : dSeq d = true) (r : Rp H v d) : ∃ a, v = .ref a := by
  cases r <;> first | exact ⟨_, rfl⟩ | cases g
theorem rp_dget {k : Nat} (g : dHasT d k = true) (r : Rp H v d) : ∃ a vs u, v = .ref a ∧ H a = some (.tup vs) ∧ atI vs (k : Int) = some u ∧ Rp H u (dGet d k) := by
  cases r with
  | tup h rs =>
    rename_i ds
    have hk : k < ds.length := of_decide_eq_true g
    obtain ⟨u, h1, h2⟩ := RpAll.at' (i := k) (d := ds[k]) rs (List.getElem?_eq_getElem hk)
    refine ⟨_, _, u, rfl, h, ?_, ?_⟩
    · exact atI_nat h1
    · show Rp H u (ds.getD k .none)
      rw [List.getD_eq_getElem?_getD, List.getElem?_eq_getElem hk]
      exact h2
  | _ => cases g
theorem rp_non {x : Unit} (r : Rp H v (encN x)) : v = .non := by unfold encN at r; cases r; rfl
theorem rp_tup1 {α : Type} {f : α → PyData} {x : α} (r : Rp H v (encT1 f x)) : ∃ a v1, v = .ref a ∧ H a = some (.tup [v1]) ∧ Rp H v1 (f x) := by
  unfold encT1 at r
  cases r with
  | tup h1 h2 =>
    cases h2 with
    | cons r1 t => cases t; exact ⟨_, _, rfl, h1, r1⟩
theorem rp_mk1 {α : Type} {f : α → PyData} {a : Addr} {v1 : V} {x : α} (h1 : H a = some (.tup [v1])) (r1 : Rp H v1 (f x)) : Rp H (.ref a) (encT1 f x) := .tup h1 (.cons r1 .nil)
theorem rp_none_iff (r : Rp H v d) : decide (v = V.non) = dNone d := by
  cases r <;> simp [dNone]
end
section
variable {X : Cx}
def rIsND : R2 := fun x y H Q => ∃ d, y = .non ∧ Rp H x d ∧ Q (.bl (dNone d)) H
def rNotND : R2 := fun x y H Q => ∃ d, y = .non ∧ Rp H x d ∧ Q (.bl (!dNone d)) H
theorem op_isND : OpR X (compareOp .Is) rIsND := by
  intro pins s σ H x y v u Q I rx ry h
  obtain ⟨d, e, r, q⟩ := h
  exact op_isN pins s σ H x y v u Q I rx ry ⟨e, by rw [rp_none_iff r]; exact q⟩
theorem op_notND : OpR X (compareOp .IsNot) rNotND := by
  intro pins s σ H x y v u Q I rx ry h
  obtain ⟨d, e, r, q⟩ := h
  exact op_notN pins s σ H x y v u Q I rx ry ⟨e, by rw [rp_none_iff r]; exact q⟩
def rEqD : R2 := fun x y H Q => ∃ a b : PyData, Rp H x a ∧ Rp H y b ∧ (SeqAt.shaped a = true ∧ SeqAt.shaped b = true) ∧ Q (.bl (PyData.eqv a b)) H
def rNeD : R2 := fun x y H Q => ∃ a b : PyData, Rp H x a ∧ Rp H y b ∧ (SeqAt.shaped a = true ∧ SeqAt.shaped b = true) ∧ Q (.bl (!PyData.eqv a b)) H
theorem op_eqDD (hu : X.A.units + 64 < cLine) : OpR X (compareOp .Eq) rEqD := by
  intro pins s σ H x y v u Q I rx ry h
  obtain ⟨a, b, h1, h2, ⟨s1, s2⟩, q⟩ := h
  exact op_eqD hu pins s σ H _ _ v u Q I rx ry ⟨_, _, h1.dp, h2.dp, s1, s2, q⟩
theorem op_neDD (hu : X.A.units + 64 < cLine) : OpR X (compareOp .NotEq) rNeD := by
  intro pins s σ H x y v u Q I rx ry h
  obtain ⟨a, b, h1, h2, ⟨s1, s2⟩, q⟩ := h
  exact op_neD hu pins s σ H _ _ v u Q I rx ry ⟨_, _, h1.dp, h2.dp, s1, s2, q⟩
def dTy : PyData → String
  | .none => "NoneType"
  | .bool _ => "bool"
  | .int _ => "int"
  | .str _ => "str"
  | .list _ => "list"
  | .tuple _ => "tuple"
  | .dict _ => "dict"
theorem Rp.tyX {K : PySem.W.Frag} {H : Hp} {v : V} {d : PyData} (r : Rp H v d) : TyX K H v (.type (dTy d)) := by
  cases r with
  | non => exact .base .non
  | bl b => exact .base (.bl b)
  | int i => exact .base (.int i)
  | str x => exact .base (.str x)
  | lst h _ => exact .base (.lst h)
  | tup h _ => exact .base (.tup h)
def rIsiD (T : String) (f : PyData → Bool) : List V → Hp → VK → Prop := fun xs H Q => ∃ (x : V) (d : PyData), xs = [x, .ty T] ∧ Rp H x d ∧ Q (.bl (f d)) H
theorem call_isiD {T : String} {f : PyData → Bool} (hT : ∀ d, kitB (dTy d) T = some (f d)) : CallR X (.builtin "isinstance") (rIsiD T f) := by
  intro pins s σ H xs us Q I r h
  obtain ⟨x, d, rfl, rx, q⟩ := h
  exact call_isi pins s σ H _ us Q I r ⟨x, .ty T, _, _, _, rfl, .ty T, rx.tyX, kit_ty (hT d), q⟩
theorem kit_dTup (d : PyData) : kitB (dTy d) "tuple" = some (dTup d) := by
  cases d with
  | none => exact (by decide +kernel : kitB "NoneType" "tuple" = some false)
  | bool _ => exact (by decide +kernel : kitB "bool" "tuple" = some false)
  | int _ => exact (by decide +kernel : kitB "int" "tuple" = some false)
  | str _ => exact (by decide +kernel : kitB "str" "tuple" = some false)
  | list _ => exact (by decide +kernel : kitB "list" "tuple" = some false)
  | tuple _ => exact (by decide +kernel : kitB "tuple" "tuple" = some true)
  | dict _ => exact (by decide +kernel : kitB "dict" "tuple" = some false)
theorem kit_dLst (d : PyData) : kitB (dTy d) "list" = some (dLst d) := by
  cases d with
  | none => exact (by decide +kernel : kitB "NoneType" "list" = some false)
  | bool _ => exact (by decide +kernel : kitB "bool" "list" = some false)
  | int _ => exact (by decide +kernel : kitB "int" "list" = some false)
  | str _ => exact (by decide +kernel : kitB "str" "list" = some false)
  | list _ => exact (by decide +kernel : kitB "list" "list" = some true)
  | tuple _ => exact (by decide +kernel : kitB "tuple" "list" = some false)
  | dict _ => exact (by decide +kernel : kitB "dict" "list" = some false)
theorem kit_dInt (d : PyData) : kitB (dTy d) "int" = some (dInt d) := by
  cases d with
  | none => exact (by decide +kernel : kitB "NoneType" "int" = some false)
  | bool _ => exact (by decide +kernel : kitB "bool" "int" = some true)
  | int _ => exact (by decide +kernel : kitB "int" "int" = some true)
  | str _ => exact (by decide +kernel : kitB "str" "int" = some false)
  | list _ => exact (by decide +kernel : kitB "list" "int" = some false)
  | tuple _ => exact (by decide +kernel : kitB "tuple" "int" = some false)
  | dict _ => exact (by decide +kernel : kitB "dict" "int" = some false)
theorem kit_dBool (d : PyData) : kitB (dTy d) "bool" = some (dBool d) := by
  cases d with
  | none => exact (by decide +kernel : kitB "NoneType" "bool" = some false)
  | bool _ => exact (by decide +kernel : kitB "bool" "bool" = some true)
  | int _ => exact (by decide +kernel : kitB "int" "bool" = some false)
  | str _ => exact (by decide +kernel : kitB "str" "bool" = some false)
  | list _ => exact (by decide +kernel : kitB "list" "bool" = some false)
  | tuple _ => exact (by decide +kernel : kitB "tuple" "bool" = some false)
  | dict _ => exact (by decide +kernel : kitB "dict" "bool" = some false)
end
/-! ### written dicts of numbers with text keys -/
inductive ES (P : Params) : List (Str × Int) → List DictEntry → Prop
  | nil : ES P [] []
  | cons {h k v} {t u : Tok} {r : List (Str × Int)} {es : List DictEntry} (e : h = PyData.keyHash P k) (x : ES P r es) : ES P ((k, v) :: r) (⟨h, .str k t, .int v u⟩ :: es)
def lookS : List (Str × Int) → Str → Option Int
  | [], _ => none
  | (k, v) :: r, i => if k = i then some v else lookS r i
def KDS (K : PySem.W.Frag) (w : World) (a : Addr) (kvs : List (Str × Int)) : Prop :=
  ∃ es n, K.lookup a = some ⟨.type "dict", none, .dict es n, #[]⟩ ∧ ES w.params kvs es.toList
theorem ES.lit {P : Params} : ∀ {kvs : List (Str × Int)} {es : List DictEntry}, ES P kvs es → PySem.W.KeysLit P es
  | _, _, .nil => trivial
  | _, _, .cons e x => ⟨⟨_, _, rfl, e⟩, ES.lit x⟩
theorem ES.find {P : Params} {i : Str} {v : Int} : ∀ {kvs : List (Str × Int)} {es : List DictEntry}, ES P kvs es → lookS kvs i = some v → ∃ e u, es.find? (fun e => e.key.isStr i) = some e ∧ e.val = .int v u
  | _, _, .nil, h => by cases h
  | _, _, .cons (k := k) (u := u) e x, h => by
    unfold lookS at h
    by_cases q : k = i
    · rw [if_pos q] at h
      subst q
      cases h
      refine ⟨_, u, List.find?_cons_of_pos ?_, rfl⟩
      simp [Value.isStr]
    · rw [if_neg q] at h
      obtain ⟨e', u', h1, h2⟩ := ES.find x h
      refine ⟨e', u', ?_, h2⟩
      rw [List.find?_cons_of_neg]
      · exact h1
      · simp [Value.isStr, q]
theorem KDS.at {K : PySem.W.Frag} {w : World} {a : Addr} {kvs : List (Str × Int)} {z : Str} {v : Int} (D : KDS K w a kvs) (h : lookS kvs z = some v) : KDct K w a z (.int v) := by
  obtain ⟨es, n, hl, x⟩ := D
  obtain ⟨e, u, h1, h2⟩ := x.find h
  refine ⟨es, n, .int v u, hl, x.lit, ?_, ⟨u, rfl⟩⟩
  unfold PySem.W.nsIn
  rw [hl]
  show (match es.toList.find? (fun e => e.key.isStr z) with
      | some e => some (some e.val)
      | none => if es.toList.any (·.refKey) then none else some none) = _
  rw [h1]
  show some (some e.val) = _
  rw [h2]
def rIxDS (K : PySem.W.Frag) (w : World) : R2 := fun x y H Q => ∃ (p : Addr) (z : Str) (kvs : List (Str × Int)) (v : Int), x = .ref p ∧ y = .str z ∧ KDS K w p kvs ∧ lookS kvs z = some v ∧ Q (.int v) H
theorem ix_DS {X : Cx} {K : PySem.W.Frag} {w : World} (hK : X.K = K := by rfl) (hw : X.w = w := by rfl) : IxR X (rIxDS K w) := by
  subst hK hw
  intro value slice pins s σ H x y v u Q I rx ry h hs
  obtain ⟨p, z, kvs, r, e1, e2, D, e, q⟩ := h
  exact ix_kdict value slice pins s σ H x y v u Q I rx ry ⟨p, z, .int r, e1, e2, D.at e, q⟩ hs
def dictS (kvs : List (Str × Int)) (i : Str) : Int := (lookS kvs i).getD 0
def hasS (kvs : List (Str × Int)) (i : Str) : Bool := (lookS kvs i).isSome
theorem lookS_at {kvs : List (Str × Int)} {i : Str} (h : hasS kvs i = true) : lookS kvs i = some (dictS kvs i) := by
  unfold hasS at h
  unfold dictS
  cases e : lookS kvs i with
  | none => rw [e] at h; cases h
  | some v => rfl
/-! ### for the mathematics -/
theorem eqv_enc {α : Type} [DecidableEq α] {n : Nat} {f : α → PyData} (ok : EncOk n f) (x y : α) : PyData.eqv (f x) (f y) = decide (x = y) := ok.eqv x y
end Vx
namespace Vx
open PySem PySem.Spec PyProof.Rows L2
theorem sm_str {x : Str} (h : (reprText x).length ≤ 20) : Sm 1 0 (.str x) := ⟨by simp only [smallD, decide_eq_true_eq]; exact h, by simp [nodes], by simp [PyData.depth]⟩
theorem sm_none : Sm 1 0 (encN ()) := sm_non
theorem sm_T1 {α : Type} {f : α → PyData} {n k : Nat} {p : α} (h1 : Sm n k (f p)) : Sm (1 + n) (k + 1) (encT1 f p) := by
  obtain ⟨a1, a2, a3⟩ := h1
  refine ⟨by simp [encT1, smallD, smallAll, a1], ?_, ?_⟩
  · simp only [encT1, nodes, nodesAll]
    omega
  · simp only [encT1, PyData.depth, PyData.depthAll]
    omega
theorem sm_T4 {α β γ δ : Type} {f : α → PyData} {g : β → PyData} {h : γ → PyData} {e : δ → PyData} {n k m j l i o q : Nat} {p : α × β × γ × δ} (h1 : Sm n k (f p.1)) (h2 : Sm m j (g p.2.1)) (h3 : Sm l i (h p.2.2.1)) (h4 : Sm o q (e p.2.2.2)) : Sm (1 + n + m + l + o) (max k (max j (max i q)) + 1) (encT4 f g h e p) := by
  obtain ⟨a1, a2, a3⟩ := h1
  obtain ⟨b1, b2, b3⟩ := h2
  obtain ⟨c1, c2, c3⟩ := h3
  obtain ⟨d1, d2, d3⟩ := h4
  refine ⟨by simp [encT4, smallD, smallAll, a1, b1, c1, d1], ?_, ?_⟩
  · simp only [encT4, nodes, nodesAll]
    omega
  · simp only [encT4, PyData.depth, PyData.depthAll]
    omega
theorem Sm.enc {n k : Nat} {d : PyData} (h : Sm n k d) : Sm n k (encD d) := h
end Vx
namespace Vx
theorem len8 {α : Type} {l : List α} (h : l.length = 8) : ∃ x0 x1 x2 x3 x4 x5 x6 x7, l = [x0, x1, x2, x3, x4, x5, x6, x7] := by
  obtain ⟨x0, r, rfl, h2⟩ := len_s h
  obtain ⟨x1, x2, x3, x4, x5, x6, x7, rfl⟩ := len7 h2
  exact ⟨x0, x1, x2, x3, x4, x5, x6, x7, rfl⟩
theorem len9 {α : Type} {l : List α} (h : l.length = 9) : ∃ x0 x1 x2 x3 x4 x5 x6 x7 x8, l = [x0, x1, x2, x3, x4, x5, x6, x7, x8] := by
  obtain ⟨x0, r, rfl, h2⟩ := len_s h
  obtain ⟨x1, x2, x3, x4, x5, x6, x7, x8, rfl⟩ := len8 h2
  exact ⟨x0, x1, x2, x3, x4, x5, x6, x7, x8, rfl⟩
theorem len10 {α : Type} {l : List α} (h : l.length = 10) : ∃ x0 x1 x2 x3 x4 x5 x6 x7 x8 x9, l = [x0, x1, x2, x3, x4, x5, x6, x7, x8, x9] := by
  obtain ⟨x0, r, rfl, h2⟩ := len_s h
  obtain ⟨x1, x2, x3, x4, x5, x6, x7, x8, x9, rfl⟩ := len9 h2
  exact ⟨x0, x1, x2, x3, x4, x5, x6, x7, x8, x9, rfl⟩
theorem len11 {α : Type} {l : List α} (h : l.length = 11) : ∃ x0 x1 x2 x3 x4 x5 x6 x7 x8 x9 x10, l = [x0, x1, x2, x3, x4, x5, x6, x7, x8, x9, x10] := by
  obtain ⟨x0, r, rfl, h2⟩ := len_s h
  obtain ⟨x1, x2, x3, x4, x5, x6, x7, x8, x9, x10, rfl⟩ := len10 h2
  exact ⟨x0, x1, x2, x3, x4, x5, x6, x7, x8, x9, x10, rfl⟩
theorem len12 {α : Type} {l : List α} (h : l.length = 12) : ∃ x0 x1 x2 x3 x4 x5 x6 x7 x8 x9 x10 x11, l = [x0, x1, x2, x3, x4, x5, x6, x7, x8, x9, x10, x11] := by
  obtain ⟨x0, r, rfl, h2⟩ := len_s h
  obtain ⟨x1, x2, x3, x4, x5, x6, x7, x8, x9, x10, x11, rfl⟩ := len11 h2
  exact ⟨x0, x1, x2, x3, x4, x5, x6, x7, x8, x9, x10, x11, rfl⟩
end Vx
namespace Vx
open PySem PySem.Spec PyProof.Rows L2
theorem Sep.mutnews {M : List Addr} {H0 G0 G H H' : Hp} {O : List Addr} (S : Sep M H0 G0 G H O) {L : List Addr} (x : SameXs L H H') (hL : ∀ a ∈ L, a ∈ O) (hs : ∀ a ∈ L, H' a ≠ none) (N : List Addr) (hN : ∀ a ∈ N, H a = none ∧ H' a ≠ none ∧ H0 a = none) : Sep M H0 G0 G H' (N ++ O) := by
  have S1 := S.mut x hL hs
  refine ⟨S1.base, S1.pm, S1.sG, S1.g0, S1.gn, fun a ha => ?_⟩
  rcases List.mem_append.mp ha with z | z
  · obtain ⟨h1, h2, h3⟩ := hN a z
    exact ⟨S.gfree h1, h2, .inr h3⟩
  · exact S1.ow a z
end Vx
/-! # sorted(set(xs)), xs a list of numbers -/
namespace Vs
open PySem PySem.Spec PyProof.Rows L2
section
variable {prog : Program} {wo : World} {Ar : Around} {Er : Value → Shared → Prop} {st : Shared}
/-- the object that set.__new__ lays -/
abbrev bare (wo : World) : Obj := { cls := .type "set", dict := none, data := .set #[] 0 (.fresh 0 0 (!wo.params.followText "set-order")) }
theorem get_bare (h : Heap) : (h.push (bare wo)).get? h.objs.size = some (bare wo) := Heap.get?_push_size _ rfl
/-- set.__init__ of a new, empty set over a list of numbers -/
theorem init_list {lst : Addr} {arr : Array Value} {ks : List Int} (calm : Ar.handled = none) (isl : st.heap.IsList lst arr) (hin : IntsAre arr.toList ks) (few : ks.length + 1 < scanBound)
    (R : Result → Shared → Prop)
    (fin : ∀ (g : Heap) (tk c : Nat), SetR wo g st.heap.objs.size (fun j => decide (j ∈ ks)) c → c ≤ ks.length → (∀ b o, st.heap.get? b = some o → g.get? b = some o) → R (.ok (.ret .none)) { st with heap := g, toks := tk }) :
    codeAny (model prog wo) Ar (.call (.builtin "set.__init__") ⟨[.ref st.heap.objs.size, .ref lst], []⟩) R { st with heap := st.heap.push (bare wo) } := by
  have typ : Shared.TypeIs { st with heap := st.heap.push (bare wo) } (.ref st.heap.objs.size) "set" := ⟨_, get_bare _, rfl⟩
  have len : arr.size = ks.length := by
    have z := hin.length
    rwa [Array.length_toList] at z
  refine codeAny_call_builtin F.called_set.init.plain F.entry_set_init (check_set_init_1 typ ?_)
  obtain ⟨⟨k1, k2, k3, k4⟩, ho, e1, m, e2⟩ := isl
  simp only at e1 e2
  subst e1 e2
  have below : lst < st.heap.objs.size := Heap.lt_size ho
  have il : (st.heap.push (bare wo)).IsList lst arr := ⟨_, Heap.get?_push_of_some _ ho, rfl, m, rfl⟩
  have a1 := F.sub_list_set
  have a2 := F.sub_list_frozenset
  have a3 : (Value.type "list" == Value.type "dict") = false := by decide
  have a4 := Heap.get?_push_of_some (bare wo) ho
  unfold Builtin.«set.__init__» noKeywords Builtin.Frozenset.updateFrom
  generalize hw : pyIter = WK
  wp_walk
  subst hw
  refine wpAny_pyIter_list il (wpAny_bind (wpAny_runValue ?_))
  have sz : (st.heap.push (bare wo)).objs.size = st.heap.objs.size + 1 := Heap.size_push ..
  have c3 : Ar.in1.in1.handled = none := by simp [calm]
  have far : lst ≠ (st.heap.push (bare wo)).objs.size := by rw [sz]; exact Nat.ne_of_lt (Nat.lt_succ_of_lt below)
  have out : st.heap.objs.size ∉ [(st.heap.push (bare wo)).objs.size, lst] := by
    intro z
    rcases List.mem_cons.mp z with z | z
    · rw [sz] at z; exact absurd z (Nat.ne_of_lt (Nat.lt_succ_self _))
    · exact absurd (List.mem_singleton.mp z) (Nat.ne_of_gt below)
  refine set_update_ints ((Walks.list c3 _ lst far arr).toS) st.heap.objs.size out ks len few (fun i v hv => ?_) (arr.size - 0) 0 _ (by omega) (Nat.zero_le _) ?_ ?_ ?_
  · have hi : i < ks.length := by rw [← len]; exact (Array.getElem?_eq_some_iff.mp hv).1
    obtain ⟨t, e⟩ := PyProof.Rows.IntsAre.int_at hin i v (by rw [Array.getElem?_toList]; exact hv)
    refine ⟨ks[i], t, List.getElem?_eq_getElem hi, ?_⟩
    rw [e, List.getD_eq_getElem?_getD, List.getElem?_eq_getElem hi] <;> rfl
  · exact ⟨⟨_, Heap.get?_push_size _ rfl, rfl, rfl⟩, il.push _⟩
  · exact ⟨0, Nat.le_refl 0, setR_new_at (Heap.get?_push_of_some _ (get_bare _))⟩
  · rintro ⟨g, q1, q2, q3, q4⟩ c mv hc hs
    have b1 : q1 = st.gens := mv.gens
    have b2 : q2 = st.drawn := mv.drawn
    have b3 : q4 = st.os := mv.os
    subst b1 b2 b3
    refine wpAny_pure ?_
    refine wpAny_pure ?_
    rw [len] at hc
    refine fin g q3 c hs hc fun b o e => ?_
    have hb : b < st.heap.objs.size := Heap.lt_size e
    refine mv.heap b o (fun z => ?_) (Heap.get?_push_of_some _ (Heap.get?_push_of_some _ e))
    rcases List.mem_cons.mp z with z | z
    · exact absurd z (Nat.ne_of_lt hb)
    · have z := List.mem_singleton.mp z
      rw [sz] at z
      exact absurd z (Nat.ne_of_lt (Nat.lt_succ_of_lt hb))
end
end Vs
namespace Vs
open PySem PySem.Spec PyProof.Rows L2
section
variable {prog : Program} {wo : World} {Ar : Around} {Er : Value → Shared → Prop} {st : Shared}
/-- set(xs): a new set of the numbers of a list -/
theorem make_list {lst : Addr} {arr : Array Value} {ks : List Int} {Q : Value → Shared → Prop} (calm : Ar.handled = none) (isl : st.heap.IsList lst arr) (hin : IntsAre arr.toList ks) (few : ks.length + 1 < scanBound)
    (fin : ∀ (g : Heap) (tk c : Nat), SetR wo g st.heap.objs.size (fun j => decide (j ∈ ks)) c → c ≤ ks.length → (∀ b o, st.heap.get? b = some o → g.get? b = some o) → Q (.ref st.heap.objs.size) { st with heap := g, toks := tk }) :
    wpAny (model prog wo) Ar (call (.type "set") [.ref lst]) Q Er st := by
  obtain ⟨cc, tl, hmro⟩ := F.called_set.mro
  have m1 := F.called_set.made
  have m2 := F.called_set.sub
  have m3 := F.called_set.notType
  have m4 := F.called_set.canCreate
  have m5 := F.typeCall_set_1 (.ref lst)
  refine wpAny_call (codeAny_of_tree ?_)
  show wpAny _ _ (callAny (.type "set") _) _ _ _
  refine wpAny_pure ⟨Code.quiet_builtin _ (by decide +kernel), codeAny_builtin F.entry_type_call ?_⟩
  rw [Around.under_plain (weight_type_call_type "set" [.ref lst] []) rfl]
  repeat (any_goals (first | assumption | wp_step))
  refine codeAny_mono (code_set_led1 (.ref lst) (E := Er) (Q₁ := fun obj z => obj = .ref st.heap.objs.size ∧ z = { st with heap := st.heap.push (bare wo) }) ⟨rfl, rfl⟩) fun r z hr => ?_
  match r, hr with
  | .error e, hr => exact hr
  | .ok (.ret obj), hr =>
    obtain ⟨rfl, rfl⟩ := hr
    have m6 := F.called_set.init.lookup
    have m7 := F.called_set.init.bind (.ref st.heap.objs.size)
    have typ : Shared.TypeIs { st with heap := st.heap.push (bare wo) } (.ref st.heap.objs.size) "set" := ⟨_, get_bare _, rfl⟩
    repeat (any_goals (first | assumption | wp_step))
    refine codeAny_mono (init_list (R := wants (fun r z => r = .none ∧ ∃ g tk c, z = { st with heap := g, toks := tk } ∧ SetR wo g st.heap.objs.size (fun j => decide (j ∈ ks)) c ∧ c ≤ ks.length ∧ ∀ b o, st.heap.get? b = some o → g.get? b = some o) Er)
      (by simp [calm]) isl hin few fun g tk c a b k => ⟨rfl, g, tk, c, rfl, a, b, k⟩) fun r z hr => ?_
    match r, hr with
    | .error e, hr => exact hr
    | .ok (.ret v), hr =>
      obtain ⟨rfl, g, tk, c, rfl, a, b, k⟩ := hr
      repeat (any_goals (first | assumption | wp_step))
      exact fin _ _ _ a b k
end
section
variable {X : Cx}
/-- set(xs) -/
def rSetI (w : World) : List V → Hp → VK → Prop := fun xs H Q => ∃ (l : Addr) (ks : List Int), xs = [V.ref l] ∧ (∃ K, SqL K H l (ks.map V.int)) ∧ ks.length ≤ 50 ∧
  ∀ (p : Addr) (n : Nat), n ≤ ks.length → H p = none → Q (.ref p) (upd H p (SetO w p (fun j => decide (j ∈ ks)) n))
end
end Vs
namespace Vx
open PySem PySem.Spec PyProof.Rows L2
section
variable {X : Cx}
def rSetI (K : PySem.W.Frag) (w : World) : List V → Hp → VK → Prop := fun xs H Q => ∃ (l : Addr) (ks : List Int), xs = [V.ref l] ∧ SqL K H l (ks.map V.int) ∧ ks.length ≤ 50 ∧
  ∀ (p : Addr) (n : Nat), n ≤ ks.length → H p = none → Q (.ref p) (upd H p (SetO w p (fun j => decide (j ∈ ks)) n))
theorem cr_setI {K : PySem.W.Frag} {w : World} (hc : X.calm = true) (hK : X.K = K := by rfl) (hw : X.w = w := by rfl) : CallR X (.type "set") (rSetI K w) := by
  subst hK hw
  intro pins s σ H xs us Q I r h
  obtain ⟨l, ks, rfl, hl, hf, q⟩ := h
  rw [Vals.ref1 r]
  obtain ⟨its, rv, pl, hz⟩ := I.list hl
  have hb : scanBound = 4096 := rfl
  refine Vs.make_list (I.ok.hd hc) pl.isList (by simpa using ints_of_vals rv) (by omega) fun g tk c R hcn k => ?_
  exact ⟨.ref _, upd H _ (SetO X.w _ (fun j => decide (j ∈ ks)) c), I.laid (t' := tk) k (Nat.le_refl _) (setO_new R), rfl, q _ c hcn (I.hok.fresh (Nat.le_refl _))⟩
def rSortSet (w : World) : List V → Hp → VK → Prop := fun vs H Q => ∃ (a : Addr) (ks : List Int) (n : Nat), vs = [V.ref a] ∧ H a = some (SetO w a (fun j => decide (j ∈ ks)) n) ∧ n ≤ 50 ∧
  ∀ (ns : List Int) (p : Addr), ns.Pairwise (· < ·) → (∀ k : Int, k ∈ ns ↔ k ∈ ks) → H p = none → Q (.ref p) (upd H p (.lst (ns.map V.int)))
theorem cr_sortSet {w : World} (hc : X.calm = true) (hw : X.w = w := by rfl) : CallR X (.builtin "sorted") (rSortSet w) := by
  subst hw
  intro pins s σ H vs us Q I r h
  obtain ⟨a, ks, n, rfl, ha, h64, q⟩ := h
  exact cr_sortedSet hc pins s σ H _ us Q I r ⟨a, _, n, rfl, ha, by omega, fun ns p pw hm hl hn => q ns p pw (fun k => (hm k).trans decide_eq_true_iff) hn⟩
end
/-! ### numbers in order, each once -/
def insS (x : Int) : List Int → List Int
  | [] => [x]
  | y :: r => if x < y then x :: y :: r else if x = y then y :: r else y :: insS x r
def sortSet (xs : List Int) : List Int := xs.foldr insS []
theorem insS_mem {x k : Int} : ∀ {l : List Int}, k ∈ insS x l ↔ k = x ∨ k ∈ l
  | [] => by simp [insS]
  | y :: r => by
    unfold insS
    split
    · simp
    · split
      · next h => subst h; simp
      · rw [List.mem_cons, insS_mem (l := r), List.mem_cons]
        constructor <;> (intro h; rcases h with h | h | h <;> simp [h])
theorem insS_pw {x : Int} : ∀ {l : List Int}, l.Pairwise (· < ·) → (insS x l).Pairwise (· < ·)
  | [], _ => by simp [insS]
  | y :: r, h => by
    have hy := List.pairwise_cons.mp h
    unfold insS
    split
    · next c =>
      refine List.pairwise_cons.mpr ⟨fun z hz => ?_, h⟩
      rcases List.mem_cons.mp hz with rfl | hz
      · exact c
      · exact Int.lt_trans c (hy.1 z hz)
    · next c =>
      split
      · exact h
      · refine List.pairwise_cons.mpr ⟨fun z hz => ?_, insS_pw hy.2⟩
        rcases insS_mem.mp hz with rfl | hz
        · omega
        · exact hy.1 z hz
theorem sortSet_mem {k : Int} : ∀ {l : List Int}, k ∈ sortSet l ↔ k ∈ l
  | [] => Iff.rfl
  | y :: r => by
    show k ∈ insS y (sortSet r) ↔ _
    rw [insS_mem, sortSet_mem (l := r), List.mem_cons]
theorem sortSet_pw : ∀ l : List Int, (sortSet l).Pairwise (· < ·)
  | [] => List.Pairwise.nil
  | y :: r => insS_pw (sortSet_pw r)
theorem pw_uniq : ∀ {a b : List Int}, a.Pairwise (· < ·) → b.Pairwise (· < ·) → (∀ k : Int, k ∈ a ↔ k ∈ b) → a = b
  | [], [], _, _, _ => rfl
  | [], y :: r, _, _, h => absurd ((h y).mpr List.mem_cons_self) (by simp)
  | x :: r, [], _, _, h => absurd ((h x).mp List.mem_cons_self) (by simp)
  | x :: r, y :: t, p, q, h => by
    have p := List.pairwise_cons.mp p
    have q := List.pairwise_cons.mp q
    have e : x = y := by
      rcases List.mem_cons.mp ((h x).mp List.mem_cons_self) with e | e
      · exact e
      · rcases List.mem_cons.mp ((h y).mpr List.mem_cons_self) with e2 | e2
        · exact e2.symm
        · have := q.1 x e
          have := p.1 y e2
          omega
    subst e
    rw [pw_uniq p.2 q.2 fun k => ?_]
    have hk := h k
    rw [List.mem_cons, List.mem_cons] at hk
    constructor
    · intro z
      rcases hk.mp (.inr z) with e | e
      · have := p.1 k z; omega
      · exact e
    · intro z
      rcases hk.mpr (.inr z) with e | e
      · have := q.1 k z; omega
      · exact e
theorem sortSet_of {ks ns : List Int} (p : ns.Pairwise (· < ·)) (h : ∀ k : Int, k ∈ ns ↔ k ∈ ks) : ns = sortSet ks := pw_uniq p (sortSet_pw ks) fun k => (h k).trans sortSet_mem.symm
theorem gen_new2 {H H' : Hp} {p q : Addr} {o u : HO} (n : H p = none) (m : upd H p o q = none) (h : upd (upd H p o) q u = H') : Same H H' ∧ H' q = some u ∧ H q = none := by
  have hne : q ≠ p := fun z => by rw [z, upd_same] at m; cases m
  have hq : H q = none := by rwa [upd_ne hne] at m
  subst h
  refine ⟨fun b x e => ?_, upd_same, hq⟩
  rw [upd_ne (fun z => by rw [z, hq] at e; cases e), upd_ne (fun z => by rw [z, n] at e; cases e)]
  exact e
/-! ### texts in tuples and lists -/
theorem map_getF {α : Type} {f : α → V} {xs : List α} {i : Nat} {x : V} (h : (xs.map f)[i]? = some x) : ∃ o, xs[i]? = some o ∧ x = f o := by
  rw [List.getElem?_map] at h
  cases e : xs[i]? with
  | none => rw [e] at h; cases h
  | some o => rw [e] at h; exact ⟨o, rfl, (Option.some.inj h).symm⟩
theorem inV_strs (x : Str) : ∀ xs : List Str, inV (V.str x) (xs.map V.str) = decide (x ∈ xs)
  | [] => by simp [inV]
  | y :: r => by
    have h := inV_strs x r
    unfold inV at h ⊢
    rw [List.map_cons, List.any_cons, h]
    by_cases c : x = y
    · subst c
      simp [eqV]
    · simp [eqV, c, Ne.symm c]
theorem flat_strs : ∀ xs : List Str, (xs.map V.str).all flatV = true
  | [] => rfl
  | _ :: r => flat_strs r
section
variable {X : Cx} {K : PySem.W.Frag}
def rInS (K : PySem.W.Frag) : R2 := fun x y H Q => ∃ (i : Str) (p : Addr) (xs : List Str), x = .str i ∧ y = .ref p ∧ (SqL K H p (xs.map V.str) ∨ SqT K H p (xs.map V.str)) ∧ Q (.bl (decide (i ∈ xs))) H
theorem op_inS (hK : X.K = K := by rfl) : OpR X (compareOp .In) (rInS K) := by
  subst hK
  intro pins s σ H x y v u Q I rx ry h
  obtain ⟨i, p, xs, e1, e2, hs, q⟩ := h
  refine op_in_seq pins s σ H _ _ v u Q I rx ry ⟨p, _, e2, hs, by rw [e1]; rfl, flat_strs xs, ?_⟩
  rw [if_neg Bool.false_ne_true, e1, inV_strs]
  exact q
/-- a list or a tuple of numbers -/
def SeqI (K : PySem.W.Frag) (H : Hp) (v : V) (xs : List Int) : Prop := ∃ a, v = .ref a ∧ (H a = some (.lst (xs.map V.int)) ∨ H a = some (.tup (xs.map V.int)) ∨ ∀ H, SqT K H a (xs.map V.int))
def rListSI (K : PySem.W.Frag) : List V → Hp → VK → Prop := fun xs H Q => ∃ (v : V) (ks : List Int), xs = [v] ∧ SeqI K H v ks ∧ ∀ l, H l = none → Q (.ref l) (upd H l (.lst (ks.map V.int)))
theorem call_listSI (hK : X.K = K := by rfl) : CallR X (.type "list") (rListSI K) := by
  subst hK
  intro pins s σ H xs us Q I r h
  obtain ⟨v, ks, rfl, ⟨a, rfl, h2⟩, q⟩ := h
  refine call_list_of pins s σ H _ us Q I r ⟨a, _, rfl, ?_, q⟩
  rcases h2 with z | z | z
  · exact .inl (SqL.of z)
  · exact .inr (SqT.of z)
  · exact .inr (z H)
theorem SeqI.mono {H H' : Hp} {v : V} {xs : List Int} (e : Same H H') (h : SeqI K H v xs) : SeqI K H' v xs := by
  obtain ⟨a, e1, h⟩ := h
  refine ⟨a, e1, ?_⟩
  rcases h with z | z | z
  · exact .inl (e _ _ z)
  · exact .inr (.inl (e _ _ z))
  · exact .inr (.inr z)
def rTupLK (K : PySem.W.Frag) : List V → Hp → VK → Prop := fun xs H Q => ∃ (p : Addr) (ks : List Int), xs = [.ref p] ∧ SqL K H p (ks.map V.int) ∧ ∀ l, H l = none → Q (.ref l) (upd H l (.tup (ks.map V.int)))
theorem call_tupLK (hK : X.K = K := by rfl) : CallR X (.type "tuple") (rTupLK K) := by
  subst hK
  intro pins s σ H xs us Q I r h
  obtain ⟨p, ks, rfl, hs, q⟩ := h
  exact call_tuple_of pins s σ H _ us Q I r ⟨p, _, rfl, .inl ⟨hs, q⟩⟩
end
/-! ### written dicts of tuples with text keys -/
def lookG {α : Type} : List (Str × α) → Str → Option α
  | [], _ => none
  | (k, v) :: r, i => if k = i then some v else lookG r i
def dictG {α : Type} [Inhabited α] (kvs : List (Str × α)) (i : Str) : α := (lookG kvs i).getD default
def hasG {α : Type} (kvs : List (Str × α)) (i : Str) : Bool := (lookG kvs i).isSome
theorem lookG_at {α : Type} [Inhabited α] {kvs : List (Str × α)} {i : Str} (h : hasG kvs i = true) : lookG kvs i = some (dictG kvs i) := by
  unfold hasG at h
  unfold dictG
  cases e : lookG kvs i with
  | none => rw [e] at h; cases h
  | some v => rfl
inductive EA (P : Params) : List (Str × Addr) → List DictEntry → Prop
  | nil : EA P [] []
  | cons {h k a} {t : Tok} {r : List (Str × Addr)} {es : List DictEntry} (e : h = PyData.keyHash P k) (x : EA P r es) : EA P ((k, a) :: r) (⟨h, .str k t, .ref a⟩ :: es)
def KDA (K : PySem.W.Frag) (w : World) (a : Addr) (kvs : List (Str × Addr)) : Prop :=
  ∃ es n, K.lookup a = some ⟨.type "dict", none, .dict es n, #[]⟩ ∧ EA w.params kvs es.toList
theorem EA.lit {P : Params} : ∀ {kvs : List (Str × Addr)} {es : List DictEntry}, EA P kvs es → PySem.W.KeysLit P es
  | _, _, .nil => trivial
  | _, _, .cons e x => ⟨⟨_, _, rfl, e⟩, EA.lit x⟩
theorem EA.find {P : Params} {i : Str} {a : Addr} : ∀ {kvs : List (Str × Addr)} {es : List DictEntry}, EA P kvs es → lookG kvs i = some a → ∃ e, es.find? (fun e => e.key.isStr i) = some e ∧ e.val = .ref a
  | _, _, .nil, h => by cases h
  | _, _, .cons (k := k) e x, h => by
    unfold lookG at h
    by_cases q : k = i
    · rw [if_pos q] at h
      subst q
      cases h
      refine ⟨_, List.find?_cons_of_pos ?_, rfl⟩
      simp [Value.isStr]
    · rw [if_neg q] at h
      obtain ⟨e', h1, h2⟩ := EA.find x h
      refine ⟨e', ?_, h2⟩
      rw [List.find?_cons_of_neg]
      · exact h1
      · simp [Value.isStr, q]
def rIxDA (K : PySem.W.Frag) (w : World) : R2 := fun x y H Q => ∃ (p : Addr) (z : Str) (kvs : List (Str × Addr)) (a : Addr), x = .ref p ∧ y = .str z ∧ KDA K w p kvs ∧ lookG kvs z = some a ∧ Q (.ref a) H
theorem ix_DA {X : Cx} {K : PySem.W.Frag} {w : World} (hK : X.K = K := by rfl) (hw : X.w = w := by rfl) : IxR X (rIxDA K w) := by
  subst hK hw
  intro value slice pins s σ H x y v u Q I rx ry h hs
  obtain ⟨p, z, kvs, a, e1, e2, ⟨es, n, hl, xx⟩, e, q⟩ := h
  obtain ⟨en, h1, h2⟩ := xx.find e
  refine ix_kdict value slice pins s σ H x y v u Q I rx ry ⟨p, z, .ref a, e1, e2, ⟨es, n, .ref a, hl, xx.lit, ?_, rfl⟩, q⟩ hs
  unfold PySem.W.nsIn
  rw [hl]
  show (match es.toList.find? (fun e => e.key.isStr z) with
      | some e => some (some e.val)
      | none => if es.toList.any (·.refKey) then none else some none) = _
  rw [h1]
  show some (some en.val) = _
  rw [h2]
theorem F2.look {α β : Type} [Inhabited α] [Inhabited β] {P : α → β → Prop} {z : Str} : ∀ {l : List (Str × α)} {m : List (Str × β)}, F2 (fun p q => p.1 = q.1 ∧ P p.2 q.2) l m → hasG m z = true → P (dictG l z) (dictG m z)
  | _, _, .nil, h => by cases h
  | (k, a) :: l, (k2, b) :: m, .cons h r, hz => by
    obtain ⟨e, hp⟩ := h
    have e : k = k2 := e
    subst e
    unfold hasG lookG at hz
    unfold dictG lookG
    by_cases q : k = z
    · rw [if_pos q, if_pos q]; exact hp
    · rw [if_neg q] at hz
      rw [if_neg q, if_neg q]
      exact F2.look r hz
theorem F2.hasK {α β : Type} {P : α → β → Prop} {z : Str} : ∀ {l : List (Str × α)} {m : List (Str × β)}, F2 (fun p q => p.1 = q.1 ∧ P p.2 q.2) l m → hasG m z = true → hasG l z = true
  | _, _, .nil, h => by cases h
  | (k, a) :: l, (k2, b) :: m, .cons h r, hz => by
    have e : k = k2 := h.1
    subst e
    unfold hasG lookG at hz ⊢
    by_cases q : k = z
    · rw [if_pos q]; rfl
    · rw [if_neg q] at hz ⊢
      exact F2.hasK r hz
end Vx
namespace Vx
open PySem PySem.Spec PyProof.Rows L2
theorem op_notFalse {X : Cx} : OpR X (compareOp .IsNot) (fun x y H Q => ∃ b : Bool, x = .bl b ∧ y = .bl false ∧ Q (.bl b) H) := by
  intro pins s σ H x y v u Q I rx ry h
  obtain ⟨b, rfl, rfl, q⟩ := h
  cases rx
  cases ry
  show wpAny (model X.prog X.w) X.A (compareOp .IsNot (.bool b) (.bool false)) (EP X pins σ Q) X.xe s
  have e : compareOp .IsNot (.bool b) (.bool false) = pure (.bool b) := by cases b <;> rfl
  rw [e]
  exact wpAny_pure ⟨.bl b, H, I, rfl, q⟩
end Vx
/-! ### comprehensions that change an object -/
namespace Vx
open PySem PySem.Spec PyProof.Rows L2
section
variable {α β σ γ : Type}
def bind2 (m : Rx (α × σ)) (f : α → σ → Rx γ) : Rx γ := m.bind fun v => f v.1 v.2
def mapAS : List α → List β → σ → (σ → α → Rx (β × σ)) → Rx (List β × σ)
  | [], acc, s, _ => .ok (acc, s)
  | x :: r, acc, s, f => grd (acc.length ≤ 1000000) ((f s x).bind fun y => mapAS r (acc ++ [y.1]) y.2 f)
def mapFS : List α → List β → σ → (σ → α → Rx (Option β × σ)) → Rx (List β × σ)
  | [], acc, s, _ => .ok (acc, s)
  | x :: r, acc, s, f => grd (acc.length ≤ 1000000) ((f s x).bind fun y =>
    match y.1 with
    | some z => mapFS r (acc ++ [z]) y.2 f
    | none => mapFS r acc y.2 f)
theorem cW_push2 {m : Rx (α × σ)} {f : α → σ → Rx γ} {K : γ → Prop} {E : Nat → Prop} (h : cW (bind2 m f) K E) : ∃ K2 : α × σ → Prop, (∀ a s, K2 (a, s) → cW (f a s) K E) ∧ cW m K2 E := ⟨fun v => cW (f v.1 v.2) K E, fun _ _ x => x, cW_call h (fun _ x => x) fun _ x => x⟩
theorem cW_mapAS {K : List β × σ → Prop} {E : Nat → Prop} {xs : List α} {acc : List β} {s : σ} {i : Nat} {x : α} {f : σ → α → Rx (β × σ)} (hx : xs[i]? = some x) (h : cW (mapAS (xs.drop i) acc s f) K E) :
    acc.length ≤ 1000000 ∧ cW (f s x) (fun y => cW (mapAS (xs.drop (i + 1)) (acc ++ [y.1]) y.2 f) K E) E := by
  rw [List.drop_eq_getElem?_toList_append, hx] at h
  obtain ⟨z, h⟩ := cW_grd h
  exact ⟨z, cW_call h (fun _ z => z) fun _ z => z⟩
theorem cW_mapAS0 {K : List β × σ → Prop} {E : Nat → Prop} {xs : List α} {acc : List β} {s : σ} {n : Nat} {f : σ → α → Rx (β × σ)} (hn : n = xs.length) (h : cW (mapAS (xs.drop n) acc s f) K E) : K (acc, s) := by
  subst hn
  rw [List.drop_length] at h
  exact cW_ok h
theorem cW_mapFS {K : List β × σ → Prop} {E : Nat → Prop} {xs : List α} {acc : List β} {s : σ} {i : Nat} {x : α} {f : σ → α → Rx (Option β × σ)} (hx : xs[i]? = some x) (h : cW (mapFS (xs.drop i) acc s f) K E) :
    acc.length ≤ 1000000 ∧ cW (f s x) (fun y => match y.1 with | some z => cW (mapFS (xs.drop (i + 1)) (acc ++ [z]) y.2 f) K E | none => cW (mapFS (xs.drop (i + 1)) acc y.2 f) K E) E := by
  rw [List.drop_eq_getElem?_toList_append, hx] at h
  obtain ⟨z, h⟩ := cW_grd h
  refine ⟨z, cW_call h (fun y z => ?_) fun _ z => z⟩
  obtain ⟨o, t⟩ := y
  cases o with
  | none => exact z
  | some w => exact z
theorem cW_mapFS0 {K : List β × σ → Prop} {E : Nat → Prop} {xs : List α} {acc : List β} {s : σ} {n : Nat} {f : σ → α → Rx (Option β × σ)} (hn : n = xs.length) (h : cW (mapFS (xs.drop n) acc s f) K E) : K (acc, s) := by
  subst hn
  rw [List.drop_length] at h
  exact cW_ok h
end
theorem sx_of {L : List Addr} {a b : Hp} (h : Same a b) : SameXs L a b := fun p o e _ => h p o e
theorem sx_same {L : List Addr} {a b c : Hp} (h : SameXs L a b) (k : Same b c) : SameXs L a c := fun p o e n => k p o (h p o e n)
theorem sx_mut {L : List Addr} {a b c : Hp} (h : SameXs L a b) (k : SameXs L b c) : SameXs L a c := fun p o e n => k p o (h p o e n) n
theorem sx_mut1 {L : List Addr} {a b c : Hp} {D : Addr} (h : SameXs L a b) (k : SameX D b c) (d : a D = none) : SameXs L a c := fun p o e n => k p o (h p o e n) (ne_of_none e d)
def rIndexTS (K : PySem.W.Frag) : V → List V → Hp → VK → Prop := fun x xs H Q => ∃ (p : Addr) (ys : List Str) (z : Str), x = .ref p ∧ xs = [.str z] ∧ SqT K H p (ys.map V.str) ∧ z ∈ ys ∧ Q (.int ((ys.idxOf z : Nat) : Int)) H
theorem mt_indexTS {X : Cx} {K : PySem.W.Frag} (hK : X.K = K := by rfl) : MtR X "tuple.index" (rIndexTS K) := by
  subst hK
  intro pins s σ H x xs v us Q I rx rxs h
  obtain ⟨p, ys, z, rfl, rfl, hs, hm, q⟩ := h
  refine mt_tup_index pins s σ H _ _ v us Q I rx rxs ⟨p, ys, z, ys.idxOf z, rfl, rfl, hs, ?_, ?_, q⟩
  · have hl := List.idxOf_lt_length_iff.mpr hm
    rw [List.getElem?_eq_getElem hl]
    exact congrArg some (List.getElem_idxOf hl)
  · intro m hm2 hg
    have h1 := (List.getElem?_eq_some_iff.mp hg)
    obtain ⟨h2, h3⟩ := h1
    have h4 := List.not_of_lt_findIdx hm2
    rw [h3, beq_self_eq_true] at h4
    cases h4
end Vx
/-! # fourth part: reckoning with functions that may refuse -/
namespace Vx
open PySem PySem.Spec PyProof.Rows L2
section
variable {α β σ ρ τ : Type}
theorem bind_ok (a : α) (f : α → Rx β) : (Rx.ok a).bind f = f a := rfl
theorem bind_er (e : Nat) (f : α → Rx β) : (Rx.er e : Rx α).bind f = .er e := rfl
theorem grd_pos {p : Prop} {dp : Decidable p} {m : Rx α} (h : p) : grd p m = m := if_pos h
theorem bnd_eq (a : α) (f : α → Rx β) : bnd a f = f a := rfl
theorem noEr_ok (a : α) : noEr (.ok a : Rx α) = .ok a := rfl
theorem tryR_ok {cs : List Nat} (a : α) (f : α → Rx β) (g : Nat → Rx β) : tryR (.ok a) cs f g = f a := rfl
theorem tryR_er {cs : List Nat} {e : Nat} (h : e ∈ cs) (f : α → Rx β) (g : Nat → Rx β) : tryR (.er e) cs f g = g e := if_pos h
theorem aft_go (s : σ) (kr : ρ → Rx τ) (k : σ → Rx τ) : (Lp.go s : Lp σ ρ).aft kr k = k s := rfl
theorem aft_rt (r : ρ) (kr : ρ → Rx τ) (k : σ → Rx τ) : (Lp.rt r : Lp σ ρ).aft kr k = kr r := rfl
/-- gives a value of which P holds -/
def Gv (m : Rx α) (P : α → Prop) : Prop := ∃ v, m = .ok v ∧ P v
theorem Gv.ok {a : α} {P : α → Prop} (h : P a) : Gv (.ok a) P := ⟨a, rfl, h⟩
theorem Gv.of_eq {m : Rx α} {a : α} {P : α → Prop} (e : m = .ok a) (h : P a) : Gv m P := ⟨a, e, h⟩
theorem Gv.bind {m : Rx α} {f : α → Rx β} {P : α → Prop} {Q : β → Prop} (h : Gv m P) (k : ∀ v, P v → Gv (f v) Q) : Gv (m.bind f) Q := by
  obtain ⟨v, rfl, p⟩ := h
  exact k v p
theorem Gv.bind_eq {m : Rx α} {f : α → Rx β} {a : α} {Q : β → Prop} (h : m = .ok a) (k : Gv (f a) Q) : Gv (m.bind f) Q := by
  subst h
  exact k
theorem Gv.grd {p : Prop} {dp : Decidable p} {m : Rx α} {Q : α → Prop} (h : p) (k : Gv m Q) : Gv (Vx.grd p m) Q := by
  rw [grd_pos h]
  exact k
theorem Gv.bnd {a : α} {f : α → Rx β} {Q : β → Prop} (k : ∀ x, x = a → Gv (f x) Q) : Gv (Vx.bnd a f) Q := k a rfl
theorem Gv.ite {p : Prop} {dp : Decidable p} {a b : Rx α} {Q : α → Prop} (h1 : p → Gv a Q) (h2 : ¬ p → Gv b Q) : Gv (if p then a else b) Q := by
  split
  · exact h1 ‹_›
  · exact h2 ‹_›
theorem Gv.pos {p : Prop} {dp : Decidable p} {a b : Rx α} {Q : α → Prop} (h : p) (k : Gv a Q) : Gv (if p then a else b) Q := by rwa [if_pos h]
theorem Gv.neg {p : Prop} {dp : Decidable p} {a b : Rx α} {Q : α → Prop} (h : ¬ p) (k : Gv b Q) : Gv (if p then a else b) Q := by rwa [if_neg h]
theorem Gv.imp {m : Rx α} {P Q : α → Prop} (h : Gv m P) (k : ∀ v, P v → Q v) : Gv m Q := by
  obtain ⟨v, e, p⟩ := h
  exact ⟨v, e, k v p⟩
theorem Gv.noEr {m : Rx α} {P : α → Prop} (h : Gv m P) : Gv (Vx.noEr m) P := by
  obtain ⟨v, rfl, p⟩ := h
  exact ⟨v, rfl, p⟩
theorem Gv.tryOk {m : Rx α} {cs : List Nat} {f : α → Rx β} {g : Nat → Rx β} {P : α → Prop} {Q : β → Prop} (h : Gv m P) (k : ∀ v, P v → Gv (f v) Q) : Gv (tryR m cs f g) Q := by
  obtain ⟨v, rfl, p⟩ := h
  exact k v p
theorem Gv.tryEr {m : Rx α} {cs : List Nat} {e : Nat} {f : α → Rx β} {g : Nat → Rx β} {Q : β → Prop} (h : m = .er e) (hm : e ∈ cs) (k : Gv (g e) Q) : Gv (tryR m cs f g) Q := by
  subst h
  rw [tryR_er hm]
  exact k
theorem Gv.get {m : Rx α} {a : α} (h : Gv m (fun v => v = a)) : m = .ok a := by
  obtain ⟨v, e, rfl⟩ := h
  exact e
theorem Gv.eq {m : Rx α} {P : α → Prop} (h : Gv m P) : ∃ v, m = .ok v ∧ P v := h
/-- a loop that keeps P -/
theorem Gv.forS {P : Nat → σ → Prop} {xs : List α} {s : σ} {f : σ → α → Rx σ} (h0 : P 0 s) (hs : ∀ i x s, xs[i]? = some x → P i s → Gv (f s x) (P (i + 1))) : Gv (Vx.forS xs s f) (P xs.length) := by
  induction xs generalizing s P with
  | nil => exact .ok h0
  | cons x r ih =>
    refine Gv.bind (hs 0 x s rfl h0) fun s' p => ?_
    exact ih (P := fun i => P (i + 1)) p fun i y s hy q => hs (i + 1) y s (by simpa using hy) q
theorem Gv.forR {P : Nat → σ → Prop} {xs : List α} {s : σ} {f : σ → α → Rx (Lp σ ρ)} (h0 : P 0 s) (hs : ∀ i x s, xs[i]? = some x → P i s → Gv (f s x) (fun l => ∃ s', l = .go s' ∧ P (i + 1) s')) : Gv (Vx.forR xs s f) (fun l => ∃ s', l = .go s' ∧ P xs.length s') := by
  induction xs generalizing s P with
  | nil => exact .ok ⟨s, rfl, h0⟩
  | cons x r ih =>
    refine Gv.bind (hs 0 x s rfl h0) ?_
    rintro _ ⟨s', rfl, p⟩
    exact ih (P := fun i => P (i + 1)) p fun i y s hy q => hs (i + 1) y s (by simpa using hy) q
/-- a loop that carries nothing -/
theorem forR_unit {xs : List α} {f : Unit → α → Rx (Lp Unit ρ)} (h : ∀ x ∈ xs, f () x = .ok (.go ())) : Vx.forR xs () f = .ok (.go ()) := by
  induction xs with
  | nil => rfl
  | cons x r ih =>
    show (f () x).bind _ = _
    rw [h x List.mem_cons_self]
    exact ih fun y hy => h y (List.mem_cons_of_mem _ hy)
theorem forS_pure {xs : List α} {s : σ} {f : σ → α → Rx σ} {g : σ → α → σ} (h : ∀ s x, x ∈ xs → f s x = .ok (g s x)) : Vx.forS xs s f = .ok (xs.foldl g s) := by
  induction xs generalizing s with
  | nil => rfl
  | cons x r ih =>
    show (f s x).bind _ = _
    rw [h s x List.mem_cons_self]
    exact ih fun s y hy => h s y (List.mem_cons_of_mem _ hy)
theorem mapA_pure {xs : List α} {acc : List β} {f : α → Rx β} {g : α → β} (h : ∀ x ∈ xs, f x = .ok (g x)) (hl : acc.length + xs.length ≤ 1000000) : mapA xs acc f = .ok (acc ++ xs.map g) := by
  induction xs generalizing acc with
  | nil => simp [mapA]
  | cons x r ih =>
    rw [List.length_cons] at hl
    unfold mapA
    rw [grd_pos (by omega), h x List.mem_cons_self, bind_ok, ih (fun y hy => h y (List.mem_cons_of_mem _ hy)) (by rw [List.length_append, List.length_cons, List.length_nil]; omega)]
    simp
theorem mapA_pure0 {xs : List α} {f : α → Rx β} {g : α → β} (h : ∀ x ∈ xs, f x = .ok (g x)) (hl : xs.length ≤ 1000000) : mapA xs [] f = .ok (xs.map g) := by
  rw [mapA_pure h (by simpa using hl)]
  rfl
theorem mapF_pure {xs : List α} {acc : List β} {f : α → Rx (Option β)} {g : α → Option β} (h : ∀ x ∈ xs, f x = .ok (g x)) (hl : acc.length + xs.length ≤ 1000000) : mapF xs acc f = .ok (acc ++ xs.filterMap g) := by
  induction xs generalizing acc with
  | nil => simp [mapF]
  | cons x r ih =>
    rw [List.length_cons] at hl
    unfold mapF
    rw [grd_pos (by omega), h x List.mem_cons_self, bind_ok]
    cases e : g x with
    | none =>
      show mapF r acc f = _
      rw [ih (fun y hy => h y (List.mem_cons_of_mem _ hy)) (by omega), List.filterMap_cons, e]
    | some z =>
      show mapF r (acc ++ [z]) f = _
      rw [ih (fun y hy => h y (List.mem_cons_of_mem _ hy)) (by rw [List.length_append, List.length_cons, List.length_nil]; omega), List.filterMap_cons, e]
      simp
/-- a while that ends: m falls -/
theorem Gv.whileR {P : σ → Prop} {R : σ → Prop} (m : σ → Nat) {f : σ → Rx (Lp σ ρ)} (hs : ∀ s, P s → Gv (f s) (fun l => (∃ s', l = .go s' ∧ P s' ∧ m s' < m s) ∨ ∃ s', l = .bk s' ∧ R s')) : ∀ {n : Nat} {s : σ}, P s → m s < n → Gv (Vx.whileR n s f) (fun l => ∃ s', l = .go s' ∧ R s') := by
  intro n
  induction n with
  | zero => intro s _ h; exact absurd h (Nat.not_lt_zero _)
  | succ n ih =>
    intro s p h
    refine Gv.bind (hs s p) ?_
    rintro _ (⟨s', rfl, p', l⟩ | ⟨s', rfl, r⟩)
    · exact ih p' (by omega)
    · exact .ok ⟨s', rfl, r⟩
end
/-- a loop that may return -/
theorem Gv.forRR {α σ ρ : Type} {P : Nat → σ → Prop} {Q : ρ → Prop} {xs : List α} {s : σ} {f : σ → α → Rx (Lp σ ρ)} (h0 : P 0 s) (hs : ∀ i x s, xs[i]? = some x → P i s → Gv (f s x) (fun l => (∃ s', l = .go s' ∧ P (i + 1) s') ∨ ∃ r, l = .rt r ∧ Q r)) : Gv (Vx.forR xs s f) (fun l => (∃ s', l = .go s' ∧ P xs.length s') ∨ ∃ r, l = .rt r ∧ Q r) := by
  induction xs generalizing s P with
  | nil => exact .ok (.inl ⟨s, rfl, h0⟩)
  | cons x r ih =>
    refine Gv.bind (hs 0 x s rfl h0) ?_
    rintro _ (⟨s', rfl, p⟩ | ⟨r, rfl, q⟩)
    · exact ih (P := fun i => P (i + 1)) p fun i y s hy q => hs (i + 1) y s (by simpa using hy) q
    · exact .ok (.inr ⟨r, rfl, q⟩)
theorem rng_mem {lo x : Int} {n : Nat} (h : x ∈ rng lo n) : lo ≤ x ∧ x < lo + n := by
  unfold rng at h
  obtain ⟨j, hj, rfl⟩ := List.mem_map.mp h
  have := List.mem_range.mp hj
  omega
theorem rng_at {lo x : Int} {n i : Nat} (h : (rng lo n)[i]? = some x) : x = lo + i ∧ i < n := by
  have hl := get_len h
  rw [rng_len] at hl
  rw [rng_get hl] at h
  exact ⟨(Option.some.inj h).symm, hl⟩
end Vx
namespace Vx
open PySem PySem.Spec PyProof.Rows L2
structure St_BitWriter where
  full : (List Int)
  rest : Int
  bits : Int
deriving DecidableEq
structure St_BitReader where
  octs : (List Int)
  place : Int
  stop : Int
deriving DecidableEq
structure St_Format where
  width : Int
  height : Int
  depth : Int
  chroma : Int
deriving DecidableEq
structure St_Settings where
  fmt : St_Format
  slots : Int
  rows : Int
  deblock : Bool
  offset : Bool
  layers : Int
deriving DecidableEq
structure St_PictureHeader where
  number : Int
  kind : Str
  level : Int
  store : (List Int)
  refs : (List Int)
  weight : Int
  layer : Int
  shown : Bool
  edge : Int
deriving DecidableEq
structure St_SliceHeader where
  number : Int
  index : Int
  delta : Int
deriving DecidableEq
def F__law_draws_b1 (free_15 : Bool) (found_33 : (List Int)) (rest_34 : Int) (state_35 : Int) (it38 : Int) : Rx ((List Int) × Int × Int) :=
  (if free_15 = true then (if 1 < rest_34 then grd (0 < (it38 : Int)) <| grd ((found_33).length ≤ 1000000) <| bnd ((found_33) ++ [(rest_34 % it38)]) fun y49 => grd (0 < (it38 : Int) ∧ (it38 : Int) < 2 ^ 128) <| bnd ((rest_34 / it38)) fun rest_51 => .ok ((y49), (rest_51), (state_35)) else bnd ((((state_35 * 48271) + 11) % 2147483647)) fun state_52 => bnd ((((state_52 * 69621) + 7) % 2147483647)) fun state_53 => grd (0 < (it38 : Int)) <| grd ((found_33).length ≤ 1000000) <| bnd ((found_33) ++ [((state_53 / 13) % it38)]) fun y62 => .ok ((y62), (rest_34), (state_53))) else bnd ((((state_35 * 48271) + 11) % 2147483647)) fun state_63 => bnd ((((state_63 * 69621) + 7) % 2147483647)) fun state_64 => grd (0 < (it38 : Int)) <| grd ((found_33).length ≤ 1000000) <| bnd ((found_33) ++ [((state_64 / 13) % it38)]) fun y73 => .ok ((y73), (rest_34), (state_64)))

def F__law_draws_r1 (found_79 : (List Int)) (rest_80 : Int) (state_81 : Int) : Rx (List Int) :=
  .ok (found_79)

def F__law_draws (cell' : Int) (limits' : (List Int)) : Rx (List Int) :=
  bnd ((if cell' < 0 then -cell' else cell')) fun rest_10 => bnd ((rest_10 % 2147483647)) fun state_11 => bnd ((decide (cell' < 0) || decide (((10 : Int) ^ Int.toNat 18) ≤ cell'))) fun free_14 => Rx.bind (forS (limits') ((([] : (List Int))), (rest_10), (state_11)) (fun s x => F__law_draws_b1 (free_14) (s.1) (s.2.1) (s.2.2) x)) fun s => F__law_draws_r1  (s.1) (s.2.1) (s.2.2)

def F__law_between (first' : Int) (second' : Int) (low' : Int) (high' : Int) : Rx Int :=
  (if (first' : Int) = 0 then .ok (low') else (if (first' : Int) = 1 then .ok (high') else (if (first' : Int) = 2 then .ok ((if high' < (low' + 1) then high' else (low' + 1))) else grd (0 < (((high' - low') + 1) : Int)) <| .ok ((low' + (second' % ((high' - low') + 1)))))))

def F__law_numbers (cell' : Int) : Rx (List Int) :=
  Rx.bind (F__law_draws cell' ([6, 256, 6, 256, 5, 3, 4, 6, 32, 2, 2, 4])) fun v95 => grd (-((v95 : (List Int)).length : Int) ≤ 0 ∧ 0 < ((v95 : (List Int)).length : Int)) <| grd (-((v95 : (List Int)).length : Int) ≤ 1 ∧ 1 < ((v95 : (List Int)).length : Int)) <| Rx.bind (F__law_between ((itD (v95) (0))) ((itD (v95) (1))) 1 256) fun v106 => grd (-((v95 : (List Int)).length : Int) ≤ 2 ∧ 2 < ((v95 : (List Int)).length : Int)) <| grd (-((v95 : (List Int)).length : Int) ≤ 3 ∧ 3 < ((v95 : (List Int)).length : Int)) <| Rx.bind (F__law_between ((itD (v95) (2))) ((itD (v95) (3))) 1 256) fun v109 => grd (-((v95 : (List Int)).length : Int) ≤ 7 ∧ 7 < ((v95 : (List Int)).length : Int)) <| grd (-((v95 : (List Int)).length : Int) ≤ 8 ∧ 8 < ((v95 : (List Int)).length : Int)) <| Rx.bind (F__law_between ((itD (v95) (7))) ((itD (v95) (8))) 1 32) fun v112 => grd (-((v95 : (List Int)).length : Int) ≤ 4 ∧ 4 < ((v95 : (List Int)).length : Int)) <| grd (-((v95 : (List Int)).length : Int) ≤ 5 ∧ 5 < ((v95 : (List Int)).length : Int)) <| grd (-((v95 : (List Int)).length : Int) ≤ 6 ∧ 6 < ((v95 : (List Int)).length : Int)) <| grd (-((v95 : (List Int)).length : Int) ≤ 9 ∧ 9 < ((v95 : (List Int)).length : Int)) <| grd (-((v95 : (List Int)).length : Int) ≤ 10 ∧ 10 < ((v95 : (List Int)).length : Int)) <| grd (-((v95 : (List Int)).length : Int) ≤ 11 ∧ 11 < ((v95 : (List Int)).length : Int)) <| .ok ([v106, v109, (8 + (itD (v95) (4))), (itD (v95) (5)), (1 + (itD (v95) (6))), v112, (itD (v95) (9)), (itD (v95) (10)), (1 + (itD (v95) (11)))])

def F_Format___init__ (width' : Int) (height' : Int) (depth' : Int) (chroma' : Int) : Rx St_Format :=
  (if 1 ≤ width' then (if width' ≤ 256 then (if 1 ≤ height' then (if height' ≤ 256 then (if 8 ≤ depth' then (if depth' ≤ 12 then (if 0 ≤ chroma' then (if chroma' ≤ 2 then .ok (⟨width', height', depth', chroma'⟩ : St_Format) else .er 1) else .er 1) else .er 1) else .er 1) else .er 1) else .er 1) else .er 1) else .er 1)

def F__require (holds' : Bool) (text' : Str) : Rx Unit :=
  (if holds' = true then .ok (()) else .er 5)

def F_Settings___init__ (fmt' : St_Format) (slots' : Int) (rows' : Int) (deblock' : Bool) (offset' : Bool) (layers' : Int) : Rx St_Settings :=
  Rx.bind (F__require ((decide (1 ≤ slots') && decide (slots' ≤ 4))) (("there are 1 to 4 slots" : Str))) fun v164 => Rx.bind (F__require ((decide (1 ≤ rows') && decide (rows' ≤ 32))) (("a slice has 1 to 32 rows of blocks" : Str))) fun v168 => Rx.bind (F__require ((decide (1 ≤ layers') && decide (layers' ≤ 4))) (("there are 1 to 4 layers" : Str))) fun v172 => .ok (⟨fmt', slots', rows', deblock', offset', layers'⟩ : St_Settings)

def F__law_settings (n' : (List Int)) : Rx St_Settings :=
  grd (-((n' : (List Int)).length : Int) ≤ 0 ∧ 0 < ((n' : (List Int)).length : Int)) <| grd (-((n' : (List Int)).length : Int) ≤ 1 ∧ 1 < ((n' : (List Int)).length : Int)) <| grd (-((n' : (List Int)).length : Int) ≤ 2 ∧ 2 < ((n' : (List Int)).length : Int)) <| grd (-((n' : (List Int)).length : Int) ≤ 3 ∧ 3 < ((n' : (List Int)).length : Int)) <| Rx.bind (F_Format___init__ ((itD (n') (0))) ((itD (n') (1))) ((itD (n') (2))) ((itD (n') (3)))) fun v224 => grd (-((n' : (List Int)).length : Int) ≤ 4 ∧ 4 < ((n' : (List Int)).length : Int)) <| grd (-((n' : (List Int)).length : Int) ≤ 5 ∧ 5 < ((n' : (List Int)).length : Int)) <| grd (-((n' : (List Int)).length : Int) ≤ 6 ∧ 6 < ((n' : (List Int)).length : Int)) <| grd (-((n' : (List Int)).length : Int) ≤ 7 ∧ 7 < ((n' : (List Int)).length : Int)) <| grd (-((n' : (List Int)).length : Int) ≤ 8 ∧ 8 < ((n' : (List Int)).length : Int)) <| Rx.bind (F_Settings___init__ (v224) ((itD (n') (4))) ((itD (n') (5))) (decide (((itD (n') (6)) : Int) = 1)) (decide (((itD (n') (7)) : Int) = 1)) ((itD (n') (8)))) fun v246 => .ok (⟨v224, v246.slots, v246.rows, v246.deblock, v246.offset, v246.layers⟩ : St_Settings)

def F_Format_blocks (self' : St_Format) : Rx (Int × Int) :=
  .ok (((((self'.width + 8) - 1) / 8), (((self'.height + 8) - 1) / 8)))

def F_Settings_slices (self' : St_Settings) : Rx Int :=
  Rx.bind (F_Format_blocks (self'.fmt)) fun v264 => grd (0 < (self'.rows : Int) ∧ (self'.rows : Int) < 2 ^ 128) <| .ok ((((v264.2 + self'.rows) - 1) / self'.rows))

def F_SliceHeader___init___k1 (number_285 : Int) (index_286 : Int) (delta_287 : Int) : Rx St_SliceHeader :=
  Rx.bind (F__require ((decide ((-31) ≤ delta_287) && decide (delta_287 ≤ 31))) (("delta is from -31 to 31" : Str))) fun v306 => .ok (⟨number_285, index_286, delta_287⟩ : St_SliceHeader)

def F_SliceHeader___init__ (settings' : St_Settings) (number' : Int) (index' : Int) (delta' : Int) : Rx St_SliceHeader :=
  Rx.bind (F__require ((decide (0 ≤ number') && decide (number' ≤ 999))) (("the number of a picture is from 0 to 999" : Str))) fun v284 => Rx.bind (((if 0 ≤ index' then Rx.bind (F_Settings_slices (settings')) fun v291 => Rx.bind (F__require (decide (index' < v291)) (("there is no such slice" : Str))) fun v295 => .ok () else Rx.bind (F__require false (("there is no such slice" : Str))) fun v297 => .ok ()) : Rx Unit)) fun s => F_SliceHeader___init___k1 (number') (index') (delta') 

def F_SliceHeader___eq__ (self' : St_SliceHeader) (other' : St_SliceHeader) : Rx Bool :=
  (if decide ((self'.number : Int) = other'.number) = true then (if decide ((self'.index : Int) = other'.index) = true then .ok (decide ((self'.delta : Int) = other'.delta)) else .ok (false)) else .ok (false))

def F__law_packed_c2 (bits_410 : (List Int)) (k_411 : Int) (it444 : Int) : Rx Int :=
  grd (-((bits_410 : (List Int)).length : Int) ≤ ((8 * k_411) + it444) ∧ ((8 * k_411) + it444) < ((bits_410 : (List Int)).length : Int)) <| grd ((0 : Int) ≤ (7 - it444) ∧ ((7 - it444) : Int) ≤ 4096 ∧ -(2 ^ 4096) < ((itD (bits_410) (((8 * k_411) + it444))) : Int) ∧ ((itD (bits_410) (((8 * k_411) + it444))) : Int) < 2 ^ 4096) <| .ok (((itD (bits_410) (((8 * k_411) + it444))) * 2 ^ Int.toNat ((7 - it444))))

def F__law_packed_c1 (bits_378 : (List Int)) (it409 : Int) : Rx Int :=
  Rx.bind (mapA (rng (0) (Int.toNat (8))) [] (fun x => noEr (F__law_packed_c2 (bits_378) (it409) x))) fun v412 => .ok ((List.sum (v412)))

def F__law_packed (bits' : (List Int)) : Rx (List Int) :=
  grd ((bits' : (List Int)).length + ([1] : (List Int)).length ≤ 1000000) <| grd (-(2 ^ 63) ≤ (((8 - (((((bits') ++ ([1])) : (List Int)).length : Int) % 8)) % 8) : Int) ∧ (((8 - (((((bits') ++ ([1])) : (List Int)).length : Int) % 8)) % 8) : Int) < 2 ^ 63 ∧ ([0]).length * Int.toNat (((8 - (((((bits') ++ ([1])) : (List Int)).length : Int) % 8)) % 8)) ≤ 1000000) <| grd (((bits') ++ ([1]) : (List Int)).length + (repL ([0]) (((8 - (((((bits') ++ ([1])) : (List Int)).length : Int) % 8)) % 8)) : (List Int)).length ≤ 1000000) <| grd (-(2 ^ 62) ≤ (((((((bits') ++ ([1])) ++ (repL ([0]) (((8 - (((((bits') ++ ([1])) : (List Int)).length : Int) % 8)) % 8)))) : (List Int)).length : Int) / 8) : Int) ∧ (((((((bits') ++ ([1])) ++ (repL ([0]) (((8 - (((((bits') ++ ([1])) : (List Int)).length : Int) % 8)) % 8)))) : (List Int)).length : Int) / 8) : Int) < 2 ^ 62) <| Rx.bind (mapA (rng (0) (Int.toNat (((((((bits') ++ ([1])) ++ (repL ([0]) (((8 - (((((bits') ++ ([1])) : (List Int)).length : Int) % 8)) % 8)))) : (List Int)).length : Int) / 8)))) [] (fun x => noEr (F__law_packed_c1 (((bits') ++ ([1])) ++ (repL ([0]) (((8 - (((((bits') ++ ([1])) : (List Int)).length : Int) % 8)) % 8)))) x))) fun v379 => .ok (v379)

def F_BitWriter___init__  : Rx St_BitWriter :=
  .ok (⟨([] : (List Int)), 0, 0⟩ : St_BitWriter)

def F_BitWriter__add_r1 (self_552 : St_BitWriter) (rest_553 : Int) (left_554 : Int) : Rx St_BitWriter :=
  .ok (⟨self_552.full, rest_553, left_554⟩ : St_BitWriter)

def F_BitWriter__add_b1 (self_533 : St_BitWriter) (rest_534 : Int) (left_535 : Int) : Rx (Lp (St_BitWriter × Int × Int) St_BitWriter) :=
  (if 8 ≤ left_535 then bnd ((left_535 - 8)) fun left_539 => grd ((0 : Int) ≤ left_539) <| grd ((self_533.full).length ≤ 1000000) <| bnd ((self_533.full) ++ [(rest_534 / 2 ^ Int.toNat (left_539))]) fun y548 => grd ((0 : Int) ≤ left_539 ∧ (left_539 : Int) ≤ 4096 ∧ -(2 ^ 4096) < (1 : Int) ∧ (1 : Int) < 2 ^ 4096) <| bnd ((PySem.Builtin.bitAnd (rest_534) (((1 * 2 ^ Int.toNat (left_539)) - 1)))) fun rest_550 => .ok (.go (((⟨y548, self_533.rest, self_533.bits⟩ : St_BitWriter)), (rest_550), (left_539))) else .ok (.bk ((self_533), (rest_534), (left_535))))

def F_BitWriter__add (self' : St_BitWriter) (value' : Int) (count' : Int) : Rx St_BitWriter :=
  grd ((0 : Int) ≤ count' ∧ (count' : Int) ≤ 4096 ∧ -(2 ^ 4096) < (self'.rest : Int) ∧ (self'.rest : Int) < 2 ^ 4096) <| bnd ((PySem.Builtin.bitOr ((self'.rest * 2 ^ Int.toNat (count'))) (value'))) fun rest_519 => bnd ((self'.bits + count')) fun left_520 => Rx.bind ((whileR 1000000 ((self'), (rest_519), (left_520)) (fun s => F_BitWriter__add_b1  (s.1) (s.2.1) (s.2.2)) : Rx (Lp (St_BitWriter × Int × Int) St_BitWriter))) fun l => l.aft Rx.ok fun s => F_BitWriter__add_r1  (s.1) (s.2.1) (s.2.2)

def F_BitWriter_put_ue (self' : St_BitWriter) (value' : Int) : Rx St_BitWriter :=
  (if 0 ≤ value' then (if value' ≤ 4294967296 then bnd (((PySem.Builtin.Int.intBits ((value' + 1)) : Nat) : Int)) fun digits_570 => Rx.bind (F_BitWriter__add (self') ((value' + 1)) (((2 * digits_570) - 1))) fun v571 => .ok v571 else .er 2) else .er 2)

def F_BitWriter_put_se (self' : St_BitWriter) (value' : Int) : Rx St_BitWriter :=
  Rx.bind (F_BitWriter_put_ue (self') ((if 0 < value' then ((2 * value') - 1) else ((-2) * value')))) fun v584 => .ok v584

def F_BitWriter_octets (self' : St_BitWriter) : Rx (List Int) :=
  bnd ((7 - self'.bits)) fun free_594 => grd ((0 : Int) ≤ free_594 ∧ (free_594 : Int) ≤ 4096 ∧ -(2 ^ 4096) < (((2 * self'.rest) + 1) : Int) ∧ (((2 * self'.rest) + 1) : Int) < 2 ^ 4096) <| grd ((self'.full).length + ([(((2 * self'.rest) + 1) * 2 ^ Int.toNat (free_594))]).length ≤ 1000000) <| .ok ((self'.full) ++ ([(((2 * self'.rest) + 1) * 2 ^ Int.toNat (free_594))]))

def F_write_slice (settings' : St_Settings) (header' : St_SliceHeader) (code' : (List Int)) : Rx (List Int) :=
  Rx.bind F_BitWriter___init__ fun v626 => Rx.bind (F_BitWriter_put_ue (v626) header'.number) fun v635 => Rx.bind (F_BitWriter_put_ue (v635) header'.index) fun v645 => Rx.bind (F_BitWriter_put_se (v645) header'.delta) fun v655 => Rx.bind (F_BitWriter_octets (v655)) fun v665 => grd (([(((v665) : (List Int)).length : Int)]).length + (v665).length ≤ 1000000) <| grd ((([(((v665) : (List Int)).length : Int)]) ++ (v665)).length + (code').length ≤ 1000000) <| .ok ((([(((v665) : (List Int)).length : Int)]) ++ (v665)) ++ (code'))

def F__last_bit_r1 (bits_719 : Int) : Rx Int :=
  .ok (bits_719)

def F__last_bit_b1 (octet_704 : Int) (bits_713 : Int) : Rx (Lp (Int) Int) :=
  grd ((0 : Int) ≤ (bits_713 - 1)) <| (if ((PySem.Builtin.bitAnd ((octet_704 / 2 ^ Int.toNat ((bits_713 - 1)))) (1)) : Int) = 0 then bnd ((bits_713 + 1)) fun bits_718 => .ok (.go (bits_718)) else .ok (.bk (bits_713)))

def F__last_bit (octet' : Int) : Rx Int :=
  Rx.bind ((whileR 1000000 (1) (fun s => F__last_bit_b1 (octet') s) : Rx (Lp (Int) Int))) fun l => l.aft Rx.ok fun s => F__last_bit_r1  s

def F_BitReader___init__ (octets' : (List Int)) : Rx St_BitReader :=
  (if (octets' : (List Int)) = [] then .er 4 else grd (-((octets' : (List Int)).length : Int) ≤ (-1) ∧ (-1) < ((octets' : (List Int)).length : Int)) <| (if ((itD (octets') ((-1))) : Int) = 0 then .er 4 else grd (-((octets' : (List Int)).length : Int) ≤ (-1) ∧ (-1) < ((octets' : (List Int)).length : Int)) <| Rx.bind (F__last_bit ((itD (octets') ((-1))))) fun v746 => bnd (((8 * (((octets') : (List Int)).length : Int)) - v746)) fun _end_751 => .ok (⟨octets', 0, _end_751⟩ : St_BitReader)))

def F_BitReader__look_b1 (value_787 : Int) (it790 : Int) : Rx (Int) :=
  grd ((0 : Int) ≤ 8 ∧ (8 : Int) ≤ 4096 ∧ -(2 ^ 4096) < (value_787 : Int) ∧ (value_787 : Int) < 2 ^ 4096) <| bnd ((PySem.Builtin.bitOr ((value_787 * 2 ^ Int.toNat (8))) (it790))) fun value_792 => .ok (value_792)

def F_BitReader__look_r1 (count_770 : Int) (end_771 : Int) (value_798 : Int) : Rx Int :=
  grd ((0 : Int) ≤ (PySem.Builtin.bitAnd ((-end_771)) (7))) <| grd ((0 : Int) ≤ count_770 ∧ (count_770 : Int) ≤ 4096 ∧ -(2 ^ 4096) < (1 : Int) ∧ (1 : Int) < 2 ^ 4096) <| .ok ((PySem.Builtin.bitAnd ((value_798 / 2 ^ Int.toNat ((PySem.Builtin.bitAnd ((-end_771)) (7))))) (((1 * 2 ^ Int.toNat (count_770)) - 1))))

def F_BitReader__look (self' : St_BitReader) (place' : Int) (count' : Int) : Rx Int :=
  bnd ((place' + count')) fun end_759 => (if self'.stop < end_759 then .er 3 else Rx.bind (forS (cutL (self'.octs) (some ((place' / 8))) (some (((end_759 + 7) / 8)))) (0) (fun s x => F_BitReader__look_b1  s x)) fun s => F_BitReader__look_r1 (count') (end_759) s)

def F_BitReader__zeros_r1 (zeros_820 : Int) : Rx Int :=
  .ok (zeros_820)

def F_BitReader__zeros_b1 (self_801 : St_BitReader) (zeros_810 : Int) : Rx (Lp (Int) Int) :=
  Rx.bind (F_BitReader__look (self_801) ((self_801.place + zeros_810)) 1) fun v813 => (if (v813 : Int) = 0 then bnd ((zeros_810 + 1)) fun zeros_818 => (if 32 < zeros_818 then .er 4 else .ok (.go (zeros_818))) else .ok (.bk (zeros_810)))

def F_BitReader__zeros (self' : St_BitReader) : Rx Int :=
  Rx.bind ((whileR 1000000 (0) (fun s => F_BitReader__zeros_b1 (self') s) : Rx (Lp (Int) Int))) fun l => l.aft Rx.ok fun s => F_BitReader__zeros_r1  s

def F_BitReader__take (self' : St_BitReader) (count' : Int) : Rx (Int × St_BitReader) :=
  Rx.bind (F_BitReader__look (self') self'.place count') fun v821 => bnd ((self'.place + count')) fun _place_826 => .ok (v821, (⟨self'.octs, _place_826, self'.stop⟩ : St_BitReader))

def F_BitReader_get_ue (self' : St_BitReader) : Rx (Int × St_BitReader) :=
  Rx.bind (F_BitReader__zeros (self')) fun v834 => Rx.bind (F_BitReader__take (self') (((2 * v834) + 1))) fun v840 => .ok ((v840.1 - 1), v840.2)

def F_BitReader_get_se (self' : St_BitReader) : Rx (Int × St_BitReader) :=
  Rx.bind (F_BitReader_get_ue (self')) fun v850 => .ok ((if ((((PySem.Builtin.bitAnd (v850.1) (1))) != 0) = true) then ((v850.1 + 1) / 2) else (-(v850.1 / 2))), v850.2)

def F__get_slice (settings' : St_Settings) (reader' : St_BitReader) : Rx (St_SliceHeader × St_BitReader) :=
  Rx.bind (F_BitReader_get_ue (reader')) fun v863 => Rx.bind (noEr (F_BitReader_get_ue (v863.2))) fun v873 => Rx.bind (noEr (F_BitReader_get_se (v873.2))) fun v883 => Rx.bind (noEr (F_SliceHeader___init__ (settings') v863.1 v873.1 v883.1)) fun v904 => .ok ((⟨v904.number, v904.index, v904.delta⟩ : St_SliceHeader), v883.2)

def F_BitReader_left (self' : St_BitReader) : Rx Int :=
  .ok ((self'.stop - self'.place))

def F_read_slice_k3 (payload_975 : (List Int)) (end_976 : Int) (header_977 : St_SliceHeader) : Rx (St_SliceHeader × (List Int)) :=
  .ok ((header_977, cutL (payload_975) (some (end_976)) none))

def F_read_slice_k2 (settings_924 : St_Settings) (payload_925 : (List Int)) (end_926 : Int) : Rx (St_SliceHeader × (List Int)) :=
  Rx.bind (noEr (F_BitReader___init__ (cutL (payload_925) (some (1)) (some (end_926))))) fun v955 => Rx.bind (noEr (F__get_slice (settings_924) (v955))) fun v964 => Rx.bind ((Rx.bind (noEr (F_BitReader_left (v964.2))) fun v980 => Rx.bind (F__require (decide ((v980 : Int) = 0)) (("bits are left over" : Str))) fun v984 => .ok () : Rx Unit)) fun s => F_read_slice_k3 (payload_925) (end_926) (v964.1) 

def F_read_slice_k1 (settings_911 : St_Settings) (payload_912 : (List Int)) (end_913 : Int) : Rx (St_SliceHeader × (List Int)) :=
  Rx.bind ((Rx.bind (F__require (decide (end_913 ≤ (((payload_912) : (List Int)).length : Int))) (("the slice header is not complete" : Str))) fun v929 => .ok () : Rx Unit)) fun s => F_read_slice_k2 (settings_911) (payload_912) (end_913) 

def F_read_slice (settings' : St_Settings) (payload' : (List Int)) : Rx (St_SliceHeader × (List Int)) :=
  Rx.bind (((if (payload' : (List Int)) = [] then .ok (1) else grd (-((payload' : (List Int)).length : Int) ≤ 0 ∧ 0 < ((payload' : (List Int)).length : Int)) <| bnd (((itD (payload') (0)) + 1)) fun end_919 => .ok (end_919)) : Rx (Int))) fun s => F_read_slice_k1 (settings') (payload') s

def F__law_picture_c1 (draws_1040 : (List Int)) (it1071 : Int) : Rx (Option Int) :=
  grd (-((draws_1040 : (List Int)).length : Int) ≤ 5 ∧ 5 < ((draws_1040 : (List Int)).length : Int)) <| grd ((0 : Int) ≤ it1071) <| (if ((PySem.Builtin.bitAnd (((itD (draws_1040) (5)) / 2 ^ Int.toNat (it1071))) (1)) : Int) = 1 then .ok (some it1071) else .ok none)

def F__law_picture_k4 (n_1176 : (List Int)) (draws_1177 : (List Int)) (kind_1178 : Int) (store_1179 : (List Int)) (refs_1180 : (List Int)) (weight_1181 : Int) : Rx (List PyData) :=
  grd (-((draws_1177 : (List Int)).length : Int) ≤ 0 ∧ 0 < ((draws_1177 : (List Int)).length : Int)) <| grd (-((draws_1177 : (List Int)).length : Int) ≤ 1 ∧ 1 < ((draws_1177 : (List Int)).length : Int)) <| Rx.bind (F__law_between ((itD (draws_1177) (0))) ((itD (draws_1177) (1))) 0 999) fun v1198 => grd (-((draws_1177 : (List Int)).length : Int) ≤ 3 ∧ 3 < ((draws_1177 : (List Int)).length : Int)) <| grd (-((draws_1177 : (List Int)).length : Int) ≤ 4 ∧ 4 < ((draws_1177 : (List Int)).length : Int)) <| Rx.bind (F__law_between ((itD (draws_1177) (3))) ((itD (draws_1177) (4))) 0 31) fun v1201 => grd (-((draws_1177 : (List Int)).length : Int) ≤ 11 ∧ 11 < ((draws_1177 : (List Int)).length : Int)) <| grd (-((n_1176 : (List Int)).length : Int) ≤ 8 ∧ 8 < ((n_1176 : (List Int)).length : Int)) <| grd (0 < ((itD (n_1176) (8)) : Int)) <| grd (-((draws_1177 : (List Int)).length : Int) ≤ 12 ∧ 12 < ((draws_1177 : (List Int)).length : Int)) <| grd (-((n_1176 : (List Int)).length : Int) ≤ 6 ∧ 6 < ((n_1176 : (List Int)).length : Int)) <| grd (-((draws_1177 : (List Int)).length : Int) ≤ 13 ∧ 13 < ((draws_1177 : (List Int)).length : Int)) <| grd ((-(2 ^ 64) < ((itD (n_1176) (6)) : Int) ∧ ((itD (n_1176) (6)) : Int) < 2 ^ 64) ∨ (-(2 ^ 64) < (((itD (draws_1177) (13)) - 6) : Int) ∧ (((itD (draws_1177) (13)) - 6) : Int) < 2 ^ 64)) <| .ok ([(PyData.int (v1198)), (PyData.int (kind_1178)), (PyData.int (v1201)), ((encL PyData.int) (store_1179)), ((encL PyData.int) (refs_1180)), (PyData.int (weight_1181)), (PyData.int (((itD (draws_1177) (11)) % (itD (n_1176) (8))))), (PyData.int ((itD (draws_1177) (12)))), (PyData.int (((itD (n_1176) (6)) * ((itD (draws_1177) (13)) - 6))))])

def F__law_picture_k3 (n_1143 : (List Int)) (draws_1144 : (List Int)) (kind_1145 : Int) (store_1146 : (List Int)) (refs_1147 : (List Int)) : Rx (List PyData) :=
  Rx.bind (((if (kind_1145 : Int) = 2 then grd (-((draws_1144 : (List Int)).length : Int) ≤ 9 ∧ 9 < ((draws_1144 : (List Int)).length : Int)) <| grd (-((draws_1144 : (List Int)).length : Int) ≤ 10 ∧ 10 < ((draws_1144 : (List Int)).length : Int)) <| Rx.bind (F__law_between ((itD (draws_1144) (9))) ((itD (draws_1144) (10))) 0 16) fun v1188 => .ok (v1188) else .ok (8)) : Rx (Int))) fun s => F__law_picture_k4 (n_1143) (draws_1144) (kind_1145) (store_1146) (refs_1147) s

def F__law_picture_k2 (n_1110 : (List Int)) (draws_1111 : (List Int)) (kind_1112 : Int) (store_1113 : (List Int)) (refs_1114 : (List Int)) : Rx (List PyData) :=
  Rx.bind (((if (kind_1112 : Int) = 1 then grd (-((draws_1111 : (List Int)).length : Int) ≤ 6 ∧ 6 < ((draws_1111 : (List Int)).length : Int)) <| (if ((itD (draws_1111) (6)) : Int) = 0 then .ok (cutL (refs_1114) none (some (1))) else .ok (refs_1114)) else .ok (refs_1114)) : Rx ((List Int)))) fun s => F__law_picture_k3 (n_1110) (draws_1111) (kind_1112) (store_1113) s

def F__law_picture (cell' : Int) (n' : (List Int)) : Rx (List PyData) :=
  Rx.bind (F__law_draws cell' ([6, 1000, 3, 6, 32, 16, 2, 4, 4, 6, 17, 4, 2, 13])) fun v1027 => grd (-((v1027 : (List Int)).length : Int) ≤ 2 ∧ 2 < ((v1027 : (List Int)).length : Int)) <| bnd ((itD (v1027) (2))) fun kind_1037 => grd (-((n' : (List Int)).length : Int) ≤ 4 ∧ 4 < ((n' : (List Int)).length : Int)) <| grd (-(2 ^ 62) ≤ ((itD (n') (4)) : Int) ∧ ((itD (n') (4)) : Int) < 2 ^ 62) <| Rx.bind (mapF (rng (0) (Int.toNat ((itD (n') (4))))) [] (fun x => noEr (F__law_picture_c1 (v1027) x))) fun v1041 => grd (-((v1027 : (List Int)).length : Int) ≤ 7 ∧ 7 < ((v1027 : (List Int)).length : Int)) <| grd (-((n' : (List Int)).length : Int) ≤ 4 ∧ 4 < ((n' : (List Int)).length : Int)) <| grd (0 < ((itD (n') (4)) : Int)) <| grd (-((v1027 : (List Int)).length : Int) ≤ 8 ∧ 8 < ((v1027 : (List Int)).length : Int)) <| grd (-((n' : (List Int)).length : Int) ≤ 4 ∧ 4 < ((n' : (List Int)).length : Int)) <| grd (0 < ((itD (n') (4)) : Int)) <| Rx.bind (((if (kind_1037 : Int) = 0 then .ok (([] : (List Int))) else .ok ([((itD (v1027) (7)) % (itD (n') (4))), ((itD (v1027) (8)) % (itD (n') (4)))])) : Rx ((List Int)))) fun s => F__law_picture_k2 (n') (v1027) (kind_1037) (v1041) s

def F__law_cell (script' : (List Int)) (k' : Int) : Rx Int :=
  (if k' < (((script') : (List Int)).length : Int) then grd (-((script' : (List Int)).length : Int) ≤ k' ∧ k' < ((script' : (List Int)).length : Int)) <| .ok ((itD (script') (k'))) else .ok (0))

def F_escape_k2 (octet_1272 : Int) (escaped_1273 : (List Int)) (zeros_1274 : Int) : Rx ((List Int) × Int) :=
  grd ((escaped_1273).length ≤ 1000000) <| bnd ((escaped_1273) ++ [octet_1272]) fun y1301 => bnd ((if (octet_1272 : Int) = 0 then (zeros_1274 + 1) else 0)) fun zeros_1305 => .ok ((y1301), (zeros_1305))

def F_escape_b1 (escaped_1267 : (List Int)) (zeros_1268 : Int) (it1271 : Int) : Rx ((List Int) × Int) :=
  Rx.bind (((if (zeros_1268 : Int) = 2 then (if it1271 ≤ 3 then grd ((escaped_1267).length ≤ 1000000) <| bnd ((escaped_1267) ++ [3]) fun y1288 => .ok ((y1288), (0)) else .ok ((escaped_1267), (zeros_1268))) else .ok ((escaped_1267), (zeros_1268))) : Rx ((List Int) × Int))) fun s => F_escape_k2 (it1271) (s.1) (s.2)

def F_escape_r1 (escaped_1311 : (List Int)) (zeros_1312 : Int) : Rx (List Int) :=
  .ok (escaped_1311)

def F_escape (octets' : (List Int)) : Rx (List Int) :=
  Rx.bind (forS (octets') ((([] : (List Int))), (0)) (fun s x => F_escape_b1  (s.1) (s.2) x)) fun s => F_escape_r1  (s.1) (s.2)

def F_write_unit (kind' : Int) (payload' : (List Int)) : Rx (List Int) :=
  (if 1 ≤ kind' then (if kind' ≤ 31 then (if 65536 < (((payload') : (List Int)).length : Int) then .er 2 else grd ((payload' : (List Int)).length + ([128] : (List Int)).length ≤ 1000000) <| Rx.bind (F_escape ((payload') ++ ([128]))) fun v1344 => grd (([0, 0, 1, kind'] : (List Int)).length + (v1344 : (List Int)).length ≤ 1000000) <| .ok (([0, 0, 1, kind']) ++ (v1344))) else .er 2) else .er 2)

def F__law_long (settings' : St_Settings) (header' : St_SliceHeader) (head' : (List Int)) (cell' : Int) : Rx Bool :=
  (if ((cell' % 32) : Int) = 9 then grd (-(2 ^ 63) ≤ (65536 : Int) ∧ (65536 : Int) < 2 ^ 63 ∧ ([0]).length * Int.toNat (65536) ≤ 1000000) <| Rx.bind (F_write_slice (settings') (header') (repL ([0]) (65536))) fun v1384 => grd (([(((head') : (List Int)).length : Int)] : (List Int)).length + (head' : (List Int)).length ≤ 1000000) <| grd (-(2 ^ 63) ≤ (65536 : Int) ∧ (65536 : Int) < 2 ^ 63 ∧ ([0]).length * Int.toNat (65536) ≤ 1000000) <| grd ((([(((head') : (List Int)).length : Int)]) ++ (head') : (List Int)).length + (repL ([0]) (65536) : (List Int)).length ≤ 1000000) <| (if (v1384 : (List Int)) = (([(((head') : (List Int)).length : Int)]) ++ (head')) ++ (repL ([0]) (65536)) then tryR (F_write_unit 3 (v1384)) [2] (fun v1444 => .ok (false)) (fun _ => .ok (true)) else .ok (false)) else .ok (true))

def F_clip (value' : Int) (low' : Int) (high' : Int) : Rx Int :=
  .ok ((if high' < (if low' > value' then low' else value') then high' else (if low' > value' then low' else value')))

def F_level_with (picture_header' : St_PictureHeader) (delta' : Int) : Rx Int :=
  Rx.bind (F_clip ((picture_header'.level + delta')) 0 31) fun v1458 => .ok (v1458)

def F_slice_level (picture_header' : St_PictureHeader) (slice_header' : St_SliceHeader) : Rx Int :=
  Rx.bind (F_level_with (picture_header') slice_header'.delta) fun v1459 => .ok (v1459)

def F__law_bits_c1 (value_1464 : Int) (count_1465 : Int) (it1494 : Int) : Rx Int :=
  grd ((0 : Int) ≤ ((count_1465 - 1) - it1494)) <| .ok ((PySem.Builtin.bitAnd ((value_1464 / 2 ^ Int.toNat (((count_1465 - 1) - it1494)))) (1)))

def F__law_bits (value' : Int) (count' : Int) : Rx (List Int) :=
  grd (-(2 ^ 62) ≤ (count' : Int) ∧ (count' : Int) < 2 ^ 62) <| Rx.bind (mapA (rng (0) (Int.toNat (count'))) [] (fun x => noEr (F__law_bits_c1 (value') (count') x))) fun v1466 => .ok (v1466)

def F__law_ue (value' : Int) : Rx (List Int) :=
  bnd (((PySem.Builtin.Int.intBits ((value' + 1)) : Nat) : Int)) fun size_1514 => grd (-(2 ^ 63) ≤ ((size_1514 - 1) : Int) ∧ ((size_1514 - 1) : Int) < 2 ^ 63 ∧ ([0]).length * Int.toNat ((size_1514 - 1)) ≤ 1000000) <| Rx.bind (F__law_bits ((value' + 1)) size_1514) fun v1534 => grd ((repL ([0]) ((size_1514 - 1)) : (List Int)).length + (v1534 : (List Int)).length ≤ 1000000) <| .ok ((repL ([0]) ((size_1514 - 1))) ++ (v1534))

def F__law_se (value' : Int) : Rx (List Int) :=
  (if 0 < value' then Rx.bind (F__law_ue (((2 * value') - 1))) fun v1555 => .ok (v1555) else Rx.bind (F__law_ue (((-2) * value'))) fun v1564 => .ok (v1564))

def F__check_numbers_k7 (settings_1637 : St_Settings) (header_1638 : St_PictureHeader) : Rx Unit :=
  (if decide ((header_1638.edge : Int) = 0) = true then Rx.bind (F__require true (("there is no edge without the filter" : Str))) fun v1649 => .ok (()) else Rx.bind (F__require settings_1637.deblock (("there is no edge without the filter" : Str))) fun v1650 => .ok (()))

def F__check_numbers_k6 (settings_1626 : St_Settings) (header_1627 : St_PictureHeader) : Rx Unit :=
  Rx.bind (((if (-6) ≤ header_1627.edge then Rx.bind (F__require (decide (header_1627.edge ≤ 6)) (("the edge is from -6 to 6" : Str))) fun v1642 => .ok () else Rx.bind (F__require false (("the edge is from -6 to 6" : Str))) fun v1643 => .ok ()) : Rx Unit)) fun s => F__check_numbers_k7 (settings_1626) (header_1627) 

def F__check_numbers_k5 (settings_1615 : St_Settings) (header_1616 : St_PictureHeader) : Rx Unit :=
  Rx.bind (((if 0 ≤ header_1616.layer then Rx.bind (F__require (decide (header_1616.layer < settings_1615.layers)) (("the layer is below the number of layers" : Str))) fun v1631 => .ok () else Rx.bind (F__require false (("the layer is below the number of layers" : Str))) fun v1632 => .ok ()) : Rx Unit)) fun s => F__check_numbers_k6 (settings_1615) (header_1616) 

def F__check_numbers_k4 (settings_1604 : St_Settings) (header_1605 : St_PictureHeader) : Rx Unit :=
  Rx.bind (((if decide ((header_1605.weight : Int) = 8) = true then Rx.bind (F__require true (("only B pictures have a weight" : Str))) fun v1620 => .ok () else Rx.bind (F__require (decide (V.str (header_1605.kind) = V.str (("B" : Str)))) (("only B pictures have a weight" : Str))) fun v1621 => .ok ()) : Rx Unit)) fun s => F__check_numbers_k5 (settings_1604) (header_1605) 

def F__check_numbers_k3 (settings_1593 : St_Settings) (header_1594 : St_PictureHeader) : Rx Unit :=
  Rx.bind (((if 0 ≤ header_1594.weight then Rx.bind (F__require (decide (header_1594.weight ≤ 16)) (("the weight is from 0 to 16" : Str))) fun v1609 => .ok () else Rx.bind (F__require false (("the weight is from 0 to 16" : Str))) fun v1610 => .ok ()) : Rx Unit)) fun s => F__check_numbers_k4 (settings_1593) (header_1594) 

def F__check_numbers_k2 (settings_1584 : St_Settings) (header_1585 : St_PictureHeader) : Rx Unit :=
  Rx.bind (((if 0 ≤ header_1585.level then Rx.bind (F__require (decide (header_1585.level ≤ 31)) (("the level is from 0 to 31" : Str))) fun v1598 => .ok () else Rx.bind (F__require false (("the level is from 0 to 31" : Str))) fun v1599 => .ok ()) : Rx Unit)) fun s => F__check_numbers_k3 (settings_1584) (header_1585) 

def F__check_numbers_k1 (settings_1573 : St_Settings) (header_1574 : St_PictureHeader) : Rx Unit :=
  Rx.bind ((Rx.bind (F__require (decide ((header_1574.kind : Str) ∈ ([("I" : Str), ("P" : Str), ("B" : Str)] : List Str))) (("the kind of a picture is I, P or B" : Str))) fun v1588 => .ok () : Rx Unit)) fun s => F__check_numbers_k2 (settings_1573) (header_1574) 

def F__check_numbers (settings' : St_Settings) (header' : St_PictureHeader) : Rx Unit :=
  Rx.bind (((if 0 ≤ header'.number then Rx.bind (F__require (decide (header'.number ≤ 999)) (("the number of a picture is from 0 to 999" : Str))) fun v1578 => .ok () else Rx.bind (F__require false (("the number of a picture is from 0 to 999" : Str))) fun v1579 => .ok ()) : Rx Unit)) fun s => F__check_numbers_k1 (settings') (header') 

def F__check_slots_b1 (settings_1661 : St_Settings) (it1679 : Int) : Rx Unit :=
  Rx.bind (F__require ((decide (0 ≤ it1679) && decide (it1679 < settings_1661.slots))) (("there is no such slot" : Str))) fun v1683 => .ok ()

def F__check_slots_r1 (header_1662 : St_PictureHeader) : Rx Unit :=
  grd ((header_1662.store : List Int).length ≤ 50) <| Rx.bind (F__require (decide ((header_1662.store : (List Int)) = (sortSet (header_1662.store)))) (("the slots of store ascend without duplicates" : Str))) fun v1707 => grd (hasG ([("I", [0]), ("P", [1, 2]), ("B", [2])] : List (Str × List Int)) (header_1662.kind) = true) <| Rx.bind (F__require (decide (((((header_1662.refs) : (List Int)).length : Int) : Int) ∈ ((dictG ([("I", [0]), ("P", [1, 2]), ("B", [2])] : List (Str × List Int)) (header_1662.kind)) : List Int))) (("the number of refs does not belong to the kind" : Str))) fun v1709 => .ok (())

def F__check_slots (settings' : St_Settings) (header' : St_PictureHeader) : Rx Unit :=
  grd ((header'.store).length + (header'.refs).length ≤ 1000000) <| Rx.bind (forS ((header'.store) ++ (header'.refs)) () (fun s x => F__check_slots_b1 (settings')  x)) fun s => F__check_slots_r1 (header') 

def F_PictureHeader___init__ (settings' : St_Settings) (number' : Int) (kind' : Str) (level' : Int) (store' : (List Int)) (refs' : (List Int)) (weight' : Int) (layer' : Int) (shown' : Bool) (edge' : Int) : Rx St_PictureHeader :=
  Rx.bind (F__check_numbers (settings') ((⟨number', kind', level', store', refs', weight', layer', shown', edge'⟩ : St_PictureHeader))) fun v1786 => Rx.bind (F__check_slots (settings') ((⟨number', kind', level', store', refs', weight', layer', shown', edge'⟩ : St_PictureHeader))) fun v1793 => .ok (⟨number', kind', level', store', refs', weight', layer', shown', edge'⟩ : St_PictureHeader)

def F__law_header (settings' : St_Settings) (p' : (List PyData)) : Rx St_PictureHeader :=
  grd (-((p' : (List PyData)).length : Int) ≤ 1 ∧ 1 < ((p' : (List PyData)).length : Int)) <| grd ((cI).ok ((itD (p') (1))) = true) <| grd (-(([("I" : Str), ("P" : Str), ("B" : Str)] : (List Str)).length : Int) ≤ ((cI).dec ((itD (p') (1)))) ∧ ((cI).dec ((itD (p') (1)))) < (([("I" : Str), ("P" : Str), ("B" : Str)] : (List Str)).length : Int)) <| grd (-((p' : (List PyData)).length : Int) ≤ 0 ∧ 0 < ((p' : (List PyData)).length : Int)) <| grd ((cI).ok ((itD (p') (0))) = true) <| grd (-((p' : (List PyData)).length : Int) ≤ 2 ∧ 2 < ((p' : (List PyData)).length : Int)) <| grd ((cI).ok ((itD (p') (2))) = true) <| grd (-((p' : (List PyData)).length : Int) ≤ 3 ∧ 3 < ((p' : (List PyData)).length : Int)) <| grd (((cL cI)).ok ((itD (p') (3))) = true) <| grd (-((p' : (List PyData)).length : Int) ≤ 4 ∧ 4 < ((p' : (List PyData)).length : Int)) <| grd (((cL cI)).ok ((itD (p') (4))) = true) <| grd (-((p' : (List PyData)).length : Int) ≤ 5 ∧ 5 < ((p' : (List PyData)).length : Int)) <| grd ((cI).ok ((itD (p') (5))) = true) <| grd (-((p' : (List PyData)).length : Int) ≤ 6 ∧ 6 < ((p' : (List PyData)).length : Int)) <| grd ((cI).ok ((itD (p') (6))) = true) <| grd (-((p' : (List PyData)).length : Int) ≤ 7 ∧ 7 < ((p' : (List PyData)).length : Int)) <| grd ((cI).ok ((itD (p') (7))) = true) <| grd (-((p' : (List PyData)).length : Int) ≤ 8 ∧ 8 < ((p' : (List PyData)).length : Int)) <| grd ((cI).ok ((itD (p') (8))) = true) <| Rx.bind (F_PictureHeader___init__ (settings') (((cI).dec ((itD (p') (0))))) ((itD ([("I" : Str), ("P" : Str), ("B" : Str)]) (((cI).dec ((itD (p') (1))))))) (((cI).dec ((itD (p') (2))))) ((((cL cI)).dec ((itD (p') (3))))) ((((cL cI)).dec ((itD (p') (4))))) (((cI).dec ((itD (p') (5))))) (((cI).dec ((itD (p') (6))))) (decide ((((cI).dec ((itD (p') (7)))) : Int) = 1)) (((cI).dec ((itD (p') (8)))))) fun v1904 => .ok (⟨v1904.number, v1904.kind, v1904.level, v1904.store, v1904.refs, v1904.weight, v1904.layer, v1904.shown, v1904.edge⟩ : St_PictureHeader)

def F_law_k2 (settings_2425 : St_Settings) (number_2426 : Int) (index_2427 : Int) (delta_2428 : Int) (header_2429 : St_SliceHeader) : Rx Bool :=
  Rx.bind (F_SliceHeader___init__ (settings_2425) number_2426 index_2427 0) fun v2506 => (if decide ((v2506.delta : Int) = 0) = true then Rx.bind (noEr (F_SliceHeader___eq__ ((⟨v2506.number, v2506.index, v2506.delta⟩ : St_SliceHeader)) (header_2429))) fun v2513 => .ok (decide (V.bl (v2513) = V.bl (decide ((delta_2428 : Int) = 0)))) else .ok (false))

def F_law_k1 (script_2053 : (List Int)) (n_2054 : (List Int)) (settings_2055 : St_Settings) (count_2056 : Int) (number_2057 : Int) (index_2058 : Int) (delta_2059 : Int) (header_2060 : St_SliceHeader) (code_2061 : (List Int)) : Rx Bool :=
  Rx.bind (F__law_ue number_2057) fun v2124 => Rx.bind (F__law_ue index_2058) fun v2133 => grd ((v2124 : (List Int)).length + (v2133 : (List Int)).length ≤ 1000000) <| Rx.bind (F__law_se delta_2059) fun v2153 => grd (((v2124) ++ (v2133) : (List Int)).length + (v2153 : (List Int)).length ≤ 1000000) <| Rx.bind (F__law_packed (((v2124) ++ (v2133)) ++ (v2153))) fun v2173 => Rx.bind (F_write_slice (settings_2055) (header_2060) (code_2061)) fun v2186 => grd (([(((v2173) : (List Int)).length : Int)] : (List Int)).length + (v2173 : (List Int)).length ≤ 1000000) <| grd ((([(((v2173) : (List Int)).length : Int)]) ++ (v2173) : (List Int)).length + (code_2061 : (List Int)).length ≤ 1000000) <| (if (v2186 : (List Int)) = (([(((v2173) : (List Int)).length : Int)]) ++ (v2173)) ++ (code_2061) then (if (code_2061 : (List Int)) = code_2061 then Rx.bind (F_read_slice (settings_2055) (v2186)) fun v2234 => (if (2 : Int) = 2 then Rx.bind (noEr (F_SliceHeader___eq__ (v2234.1) (header_2060))) fun v2253 => (if (!(v2253)) = true then .ok (false) else (if (v2234.2 : (List Int)) = code_2061 then grd (([(((v2173) : (List Int)).length : Int)] : (List Int)).length + (v2173 : (List Int)).length ≤ 1000000) <| grd ((([(((v2173) : (List Int)).length : Int)]) ++ (v2173) : (List Int)).length + (code_2061 : (List Int)).length ≤ 1000000) <| (if (v2186 : (List Int)) = (([(((v2173) : (List Int)).length : Int)]) ++ (v2173)) ++ (code_2061) then grd ((v2234.2).length ≤ 1000000) <| bnd ((v2234.2) ++ [4]) fun y2305 => Rx.bind (F_read_slice (settings_2055) (v2186)) fun v2309 => (if (v2309.2 : (List Int)) = code_2061 then Rx.bind (F_write_slice (settings_2055) (v2234.1) (code_2061)) fun v2332 => (if (v2332 : (List Int)) = v2186 then Rx.bind (F__law_cell (script_2053) 4) fun v2343 => Rx.bind (F__law_long (settings_2055) (header_2060) (v2173) v2343) fun v2348 => (if v2348 = true then Rx.bind (F__law_cell (script_2053) 3) fun v2353 => Rx.bind (F__law_picture v2353 (n_2054)) fun v2355 => Rx.bind (F__law_header (settings_2055) (v2355)) fun v2371 => Rx.bind (F_slice_level (v2371) (header_2060)) fun v2390 => grd (-((v2355 : (List PyData)).length : Int) ≤ 2 ∧ 2 < ((v2355 : (List PyData)).length : Int)) <| grd ((cI).ok ((itD (v2355) (2))) = true) <| (if (v2390 : Int) = (if (if (((cI).dec ((itD (v2355) (2)))) + delta_2059) > 0 then (((cI).dec ((itD (v2355) (2)))) + delta_2059) else 0) < 31 then (if (((cI).dec ((itD (v2355) (2)))) + delta_2059) > 0 then (((cI).dec ((itD (v2355) (2)))) + delta_2059) else 0) else 31) then Rx.bind (F_SliceHeader___init__ (settings_2055) (((number_2057 + 1) % 1000)) index_2058 delta_2059) fun v2414 => Rx.bind (noEr (F_SliceHeader___eq__ ((⟨v2414.number, v2414.index, v2414.delta⟩ : St_SliceHeader)) (header_2060))) fun v2420 => (if (v2420) = true then .ok (false) else Rx.bind (((if 1 < count_2056 then grd (0 < (count_2056 : Int)) <| Rx.bind (F_SliceHeader___init__ (settings_2055) number_2057 (((index_2058 + 1) % count_2056)) delta_2059) fun v2448 => Rx.bind (noEr (F_SliceHeader___eq__ ((⟨v2448.number, v2448.index, v2448.delta⟩ : St_SliceHeader)) (header_2060))) fun v2454 => (if (v2454) = true then .ok (.rt (false)) else .ok (.go ())) else .ok (.go ())) : Rx (Lp Unit Bool))) fun l => l.aft Rx.ok fun s => F_law_k2 (settings_2055) (number_2057) (index_2058) (delta_2059) (header_2060) ) else .ok (false)) else .ok (false)) else .ok (false)) else .ok (false)) else .ok (false)) else .ok (false))) else .ok (false)) else .ok (false)) else .ok (false))

def F_law (script' : (List Int)) : Rx Bool :=
  Rx.bind (F__law_cell (script') 0) fun v1918 => Rx.bind (F__law_numbers v1918) fun v1919 => Rx.bind (F__law_settings (v1919)) fun v1928 => grd (-((v1919 : (List Int)).length : Int) ≤ 1 ∧ 1 < ((v1919 : (List Int)).length : Int)) <| grd (-((v1919 : (List Int)).length : Int) ≤ 5 ∧ 5 < ((v1919 : (List Int)).length : Int)) <| grd (-((v1919 : (List Int)).length : Int) ≤ 5 ∧ 5 < ((v1919 : (List Int)).length : Int)) <| grd (0 < ((itD (v1919) (5)) : Int) ∧ ((itD (v1919) (5)) : Int) < 2 ^ 128) <| bnd (((((((itD (v1919) (1)) + 7) / 8) + (itD (v1919) (5))) - 1) / (itD (v1919) (5)))) fun count_1948 => Rx.bind (F__law_cell (script') 1) fun v1949 => Rx.bind (F__law_draws v1949 ([6, 1000, 6, 32, 6, 63, 41, 3])) fun v1959 => grd (-((v1959 : (List Int)).length : Int) ≤ 0 ∧ 0 < ((v1959 : (List Int)).length : Int)) <| grd (-((v1959 : (List Int)).length : Int) ≤ 1 ∧ 1 < ((v1959 : (List Int)).length : Int)) <| Rx.bind (F__law_between ((itD (v1959) (0))) ((itD (v1959) (1))) 0 999) fun v1970 => grd (-((v1959 : (List Int)).length : Int) ≤ 2 ∧ 2 < ((v1959 : (List Int)).length : Int)) <| grd (-((v1959 : (List Int)).length : Int) ≤ 3 ∧ 3 < ((v1959 : (List Int)).length : Int)) <| Rx.bind (F__law_between ((itD (v1959) (2))) ((itD (v1959) (3))) 0 ((count_1948 - 1))) fun v1973 => grd (-((v1959 : (List Int)).length : Int) ≤ 4 ∧ 4 < ((v1959 : (List Int)).length : Int)) <| grd (-((v1959 : (List Int)).length : Int) ≤ 5 ∧ 5 < ((v1959 : (List Int)).length : Int)) <| Rx.bind (F__law_between ((itD (v1959) (4))) ((itD (v1959) (5))) ((-31)) 31) fun v1976 => Rx.bind (F_SliceHeader___init__ (v1928) v1970 v1973 v1976) fun v1990 => (if ([v1990.number, v1990.index, v1990.delta] : (List Int)) = [v1970, v1973, v1976] then Rx.bind (F_Settings_slices (v1928)) fun v2017 => (if (v2017 : Int) = count_1948 then Rx.bind (F__law_cell (script') 2) fun v2022 => grd (-((v1959 : (List Int)).length : Int) ≤ 6 ∧ 6 < ((v1959 : (List Int)).length : Int)) <| grd (-(2 ^ 63) ≤ ((itD (v1959) (6)) : Int) ∧ ((itD (v1959) (6)) : Int) < 2 ^ 63 ∧ ([256]).length * Int.toNat ((itD (v1959) (6))) ≤ 1000000) <| Rx.bind (F__law_draws v2022 (repL ([256]) ((itD (v1959) (6))))) fun v2044 => Rx.bind ((grd (-((v1959 : (List Int)).length : Int) ≤ 7 ∧ 7 < ((v1959 : (List Int)).length : Int)) <| (if ((itD (v1959) (7)) : Int) = 1 then grd (-((v1959 : (List Int)).length : Int) ≤ 6 ∧ 6 < ((v1959 : (List Int)).length : Int)) <| grd (-(2 ^ 63) ≤ ((itD (v1959) (6)) : Int) ∧ ((itD (v1959) (6)) : Int) < 2 ^ 63 ∧ ([0]).length * Int.toNat ((itD (v1959) (6))) ≤ 1000000) <| .ok (repL ([0]) ((itD (v1959) (6)))) else .ok (v2044)) : Rx ((List Int)))) fun s => F_law_k1 (script') (v1919) (v1928) (count_1948) (v1970) (v1973) (v1976) ((⟨v1990.number, v1990.index, v1990.delta⟩ : St_SliceHeader)) s else .ok (false)) else .ok (false))
theorem cell_gv (s : List Int) (k : Int) (h : 0 ≤ k) : Gv (F__law_cell s k) (fun _ => True) := by
  unfold F__law_cell
  exact Gv.ite (fun c => Gv.grd ⟨by omega, c⟩ (.ok trivial)) fun _ => .ok trivial
def Inb : List Int → List Int → Prop
  | [], [] => True
  | v :: vs, l :: ls => 0 ≤ v ∧ v < l ∧ Inb vs ls
  | _, _ => False
theorem Inb.snoc : ∀ {vs ls : List Int} {y l : Int}, Inb vs ls → 0 ≤ y → y < l → Inb (vs ++ [y]) (ls ++ [l])
  | [], [], _, _, _, h0, h1 => ⟨h0, h1, trivial⟩
  | _ :: _, _ :: _, _, _, h, h0, h1 => ⟨h.1, h.2.1, Inb.snoc h.2.2 h0 h1⟩
  | [], _ :: _, _, _, h, _, _ => h.elim
  | _ :: _, [], _, _, h, _, _ => h.elim
theorem Inb.len : ∀ {vs ls : List Int}, Inb vs ls → vs.length = ls.length
  | [], [], _ => rfl
  | _ :: _, _ :: _, h => congrArg Nat.succ (Inb.len h.2.2)
  | [], _ :: _, h => h.elim
  | _ :: _, [], h => h.elim
theorem Inb.cons {v ls : List Int} {l : Int} (h : Inb v (l :: ls)) : ∃ a r, v = a :: r ∧ 0 ≤ a ∧ a < l ∧ Inb r ls := by
  cases v with
  | nil => exact h.elim
  | cons a r => exact ⟨a, r, rfl, h.1, h.2.1, h.2.2⟩
theorem Inb.nil {v : List Int} (h : Inb v []) : v = [] := by
  cases v with
  | nil => rfl
  | cons a r => exact h.elim
theorem draws_gv (cell : Int) (limits : List Int) (hl : ∀ l ∈ limits, 0 < l ∧ l < 18446744073709551616) (hn : limits.length ≤ 1000000) : Gv (F__law_draws cell limits) (fun v => Inb v limits) := by
  unfold F__law_draws
  refine Gv.bnd fun rest _ => Gv.bnd fun state _ => Gv.bnd fun free _ => Gv.bind (Gv.forS (P := fun i s => Inb s.1 (limits.take i)) ?_ fun i x s hx p => ?_) fun s p => .ok ?_
  · rw [List.take_zero]
    trivial
  · have hb0 := hl x (List.mem_of_getElem? hx)
    have hb : 0 < x ∧ x < 2 ^ 128 := ⟨hb0.1, by omega⟩
    have hlen := p.len
    have hi := get_len hx
    rw [List.length_take] at hlen
    have nx : ∀ y : Int, 0 ≤ y → y < x → Inb (s.1 ++ [y]) (limits.take (i + 1)) := fun y h0 h1 => by
      rw [take_succ_get hx]
      exact p.snoc h0 h1
    unfold F__law_draws_b1
    refine Gv.ite (fun _ => Gv.ite (fun _ => Gv.grd hb.1 (Gv.grd (by omega) (Gv.bnd fun y hy => Gv.grd ⟨hb.1, hb.2⟩ (Gv.bnd fun _ _ => .ok ?_)))) fun _ => Gv.bnd fun _ _ => Gv.bnd fun _ _ => Gv.grd hb.1 (Gv.grd (by omega) (Gv.bnd fun y hy => .ok ?_))) fun _ => Gv.bnd fun _ _ => Gv.bnd fun _ _ => Gv.grd hb.1 (Gv.grd (by omega) (Gv.bnd fun y hy => .ok ?_))
    · subst hy
      exact nx _ (Int.emod_nonneg _ (by omega)) (Int.emod_lt_of_pos _ hb.1)
    · subst hy
      exact nx _ (Int.emod_nonneg _ (by omega)) (Int.emod_lt_of_pos _ hb.1)
    · subst hy
      exact nx _ (Int.emod_nonneg _ (by omega)) (Int.emod_lt_of_pos _ hb.1)
  · rw [List.take_length] at p
    exact p
theorem ixg {xs : List Int} {k : Int} {n : Nat} (e : xs.length = n) (h : -(n : Int) ≤ k ∧ k < n) : -(xs.length : Int) ≤ k ∧ k < xs.length := by
  rw [e]
  exact h
theorem itD_lit {xs : List Int} {a k : Int} (n : Nat) (e : k = (n : Int)) (h : xs[n]? = some a) : itD xs k = a := by
  subst e
  have hl := get_len h
  unfold itD atI ixN
  rw [if_pos (by omega), if_pos (by omega)]
  show (xs[n]?).getD default = a
  rw [h]
  rfl
theorem between_gv (f s lo hi : Int) (h : lo ≤ hi) : Gv (F__law_between f s lo hi) (fun v => lo ≤ v ∧ v ≤ hi) := by
  unfold F__law_between
  refine Gv.ite (fun _ => .ok (by omega)) fun _ => Gv.ite (fun _ => .ok (by omega)) fun _ => Gv.ite (fun _ => .ok ?_) fun _ => Gv.grd (by omega) (.ok ?_)
  · split <;> omega
  · have a := Int.emod_nonneg s (show hi - lo + 1 ≠ 0 by omega)
    have b := Int.emod_lt_of_pos s (show 0 < hi - lo + 1 by omega)
    omega
theorem numbers_gv (cell : Int) : Gv (F__law_numbers cell) (fun n => ∃ w h d c s r a b l : Int, n = [w, h, d, c, s, r, a, b, l] ∧ (1 ≤ w ∧ w ≤ 256) ∧ (1 ≤ h ∧ h ≤ 256) ∧ (8 ≤ d ∧ d ≤ 12) ∧ (0 ≤ c ∧ c ≤ 2) ∧ (1 ≤ s ∧ s ≤ 4) ∧ (1 ≤ r ∧ r ≤ 32) ∧ (1 ≤ l ∧ l ≤ 4) ∧ (0 ≤ a ∧ a ≤ 1) ∧ (0 ≤ b ∧ b ≤ 1)) := by
  unfold F__law_numbers
  refine Gv.bind (draws_gv _ _ (by decide +kernel) (by decide +kernel)) fun v hv => ?_
  obtain ⟨a0, r0, rfl, _, _, hv⟩ := hv.cons
  obtain ⟨a1, r1, rfl, _, _, hv⟩ := hv.cons
  obtain ⟨a2, r2, rfl, _, _, hv⟩ := hv.cons
  obtain ⟨a3, r3, rfl, _, _, hv⟩ := hv.cons
  obtain ⟨a4, r4, rfl, b4, c4, hv⟩ := hv.cons
  obtain ⟨a5, r5, rfl, b5, c5, hv⟩ := hv.cons
  obtain ⟨a6, r6, rfl, b6, c6, hv⟩ := hv.cons
  obtain ⟨a7, r7, rfl, _, _, hv⟩ := hv.cons
  obtain ⟨a8, r8, rfl, _, _, hv⟩ := hv.cons
  obtain ⟨a9, r9, rfl, b9, c9, hv⟩ := hv.cons
  obtain ⟨a10, r10, rfl, b10, c10, hv⟩ := hv.cons
  obtain ⟨a11, r11, rfl, b11, c11, hv⟩ := hv.cons
  obtain rfl := hv.nil
  refine Gv.grd (ixg (n := 12) rfl (by decide)) (Gv.grd (ixg (n := 12) rfl (by decide)) (Gv.bind (between_gv _ _ 1 256 (by decide)) fun w hw => Gv.grd (ixg (n := 12) rfl (by decide)) (Gv.grd (ixg (n := 12) rfl (by decide)) (Gv.bind (between_gv _ _ 1 256 (by decide)) fun h hh => ?_))))
  refine Gv.grd (ixg (n := 12) rfl (by decide)) (Gv.grd (ixg (n := 12) rfl (by decide)) (Gv.bind (between_gv _ _ 1 32 (by decide)) fun r hr => Gv.grd (ixg (n := 12) rfl (by decide)) (Gv.grd (ixg (n := 12) rfl (by decide)) (Gv.grd (ixg (n := 12) rfl (by decide)) (Gv.grd (ixg (n := 12) rfl (by decide)) (Gv.grd (ixg (n := 12) rfl (by decide)) (Gv.grd (ixg (n := 12) rfl (by decide)) (.ok ?_))))))))
  rw [itD_lit (k := 4) (a := a4) 4 rfl rfl, itD_lit (k := 5) (a := a5) 5 rfl rfl, itD_lit (k := 6) (a := a6) 6 rfl rfl, itD_lit (k := 9) (a := a9) 9 rfl rfl, itD_lit (k := 10) (a := a10) 10 rfl rfl, itD_lit (k := 11) (a := a11) 11 rfl rfl]
  exact ⟨w, h, 8 + a4, a5, 1 + a6, r, a9, a10, 1 + a11, rfl, hw, hh, ⟨by omega, by omega⟩, ⟨by omega, by omega⟩, ⟨by omega, by omega⟩, hr, ⟨by omega, by omega⟩, ⟨by omega, by omega⟩, ⟨by omega, by omega⟩⟩
def setv (w h d c s r a b l : Int) : St_Settings := ⟨⟨w, h, d, c⟩, s, r, decide (a = 1), decide (b = 1), l⟩
theorem require_ok {p q : Prop} [Decidable p] [Decidable q] (t : Str) (h1 : p) (h2 : q) : F__require (decide p && decide q) t = .ok () := by
  unfold F__require
  rw [decide_eq_true h1, decide_eq_true h2]
  rfl
theorem settings_ok {w h d c s r a b l : Int} (hw : 1 ≤ w ∧ w ≤ 256) (hh : 1 ≤ h ∧ h ≤ 256) (hd : 8 ≤ d ∧ d ≤ 12) (hc : 0 ≤ c ∧ c ≤ 2) (hs : 1 ≤ s ∧ s ≤ 4) (hr : 1 ≤ r ∧ r ≤ 32) (hl : 1 ≤ l ∧ l ≤ 4) :
    F__law_settings [w, h, d, c, s, r, a, b, l] = .ok (setv w h d c s r a b l) := by
  unfold F__law_settings
  have e : F_Format___init__ w h d c = .ok ⟨w, h, d, c⟩ := by
    unfold F_Format___init__
    rw [if_pos hw.1, if_pos hw.2, if_pos hh.1, if_pos hh.2, if_pos hd.1, if_pos hd.2, if_pos hc.1, if_pos hc.2]
  have e2 : F_Settings___init__ ⟨w, h, d, c⟩ s r (decide (a = 1)) (decide (b = 1)) l = .ok (setv w h d c s r a b l) := by
    unfold F_Settings___init__
    rw [require_ok _ hs.1 hs.2, bind_ok, require_ok _ hr.1 hr.2, bind_ok, require_ok _ hl.1 hl.2, bind_ok]
    rfl
  refine Gv.get ?_
  refine Gv.grd (ixg (n := 9) rfl (by decide)) (Gv.grd (ixg (n := 9) rfl (by decide)) (Gv.grd (ixg (n := 9) rfl (by decide)) (Gv.grd (ixg (n := 9) rfl (by decide)) (Gv.bind_eq e (Gv.grd (ixg (n := 9) rfl (by decide)) (Gv.grd (ixg (n := 9) rfl (by decide)) (Gv.grd (ixg (n := 9) rfl (by decide)) (Gv.grd (ixg (n := 9) rfl (by decide)) (Gv.grd (ixg (n := 9) rfl (by decide)) (Gv.bind_eq e2 (.ok rfl)))))))))))
section
variable {w h d c s r a b l : Int}
theorem slices_ok (hr : 1 ≤ r ∧ r ≤ 32) : F_Settings_slices (setv w h d c s r a b l) = .ok (((h + 7) / 8 + r - 1) / r) := by
  unfold F_Settings_slices F_Format_blocks
  rw [bind_ok, grd_pos ⟨show 0 < r by omega, show r < 2 ^ 128 by omega⟩]
  show Rx.ok (((h + 8 - 1) / 8 + r - 1) / r) = _
  rw [show h + 8 - 1 = h + 7 by omega]
end
abbrev rqE : Nat := 5
/-! ### headers of pictures -/
def rq (b : Bool) : Rx Unit := if b = true then .ok () else .er rqE
theorem rq_req (b : Bool) (t : Str) : F__require b t = rq b := rfl
theorem rq_bind (a b : Bool) {f : Unit → Rx Unit} (h : f () = rq b) : (rq a).bind f = rq (a && b) := by
  cases a
  · rfl
  · show f () = _
    rw [h]
    rfl
theorem rq_if {p : Prop} [Decidable p] (b : Bool) (t : Str) : (if p then (F__require b t).bind fun _ => .ok () else (F__require false t).bind fun _ => .ok () : Rx Unit) = rq (decide p && b) := by
  by_cases h : p
  · rw [if_pos h, decide_eq_true h]
    cases b <;> rfl
  · rw [if_neg h, decide_eq_false h]
    rfl
theorem rq_or {c : Bool} (b : Bool) (t : Str) : (if c = true then (F__require true t).bind fun _ => .ok () else (F__require b t).bind fun _ => .ok () : Rx Unit) = rq (c || b) := by
  cases c <;> cases b <;> rfl
abbrev CNT : List (Str × List Int) := [("I", [0]), ("P", [1, 2]), ("B", [2])]
/-- what a header of a picture must be -/
structure HOk (S : St_Settings) (n : Int) (k : Str) (l : Int) (st rf : List Int) (w ly ed : Int) : Prop where
  num : 0 ≤ n ∧ n ≤ 999
  kind : k ∈ ([("I" : Str), ("P" : Str), ("B" : Str)] : List Str)
  level : 0 ≤ l ∧ l ≤ 31
  weight : 0 ≤ w ∧ w ≤ 16
  even : w = 8 ∨ k = "B"
  layer : 0 ≤ ly ∧ ly < S.layers
  edge : -6 ≤ ed ∧ ed ≤ 6
  deb : ed = 0 ∨ S.deblock = true
  slots : ∀ x ∈ st ++ rf, 0 ≤ x ∧ x < S.slots
  asc : st = sortSet st
  cnt : (rf.length : Int) ∈ dictG CNT k
def nB (S : St_Settings) (h : St_PictureHeader) : Bool :=
  (decide (0 ≤ h.number) && decide (h.number ≤ 999)) && (decide (h.kind ∈ ([("I" : Str), ("P" : Str), ("B" : Str)] : List Str)) && ((decide (0 ≤ h.level) && decide (h.level ≤ 31)) && ((decide (0 ≤ h.weight) && decide (h.weight ≤ 16)) && ((decide (h.weight = 8) || decide (V.str h.kind = V.str ("B" : Str))) && ((decide (0 ≤ h.layer) && decide (h.layer < S.layers)) && ((decide (-6 ≤ h.edge) && decide (h.edge ≤ 6)) && (decide (h.edge = 0) || S.deblock)))))))
theorem numbers_eq (S : St_Settings) (h : St_PictureHeader) : F__check_numbers S h = rq (nB S h) := by
  unfold F__check_numbers
  rw [rq_if]
  refine rq_bind _ _ ?_
  show F__check_numbers_k1 S h = _
  unfold F__check_numbers_k1
  rw [rq_req]
  have e : ∀ b : Bool, ((rq b).bind fun _ => Rx.ok ()) = rq b := fun b => by cases b <;> rfl
  rw [e]
  refine rq_bind _ _ ?_
  show F__check_numbers_k2 S h = _
  unfold F__check_numbers_k2
  rw [rq_if]
  refine rq_bind _ _ ?_
  show F__check_numbers_k3 S h = _
  unfold F__check_numbers_k3
  rw [rq_if]
  refine rq_bind _ _ ?_
  show F__check_numbers_k4 S h = _
  unfold F__check_numbers_k4
  rw [rq_or]
  refine rq_bind _ _ ?_
  show F__check_numbers_k5 S h = _
  unfold F__check_numbers_k5
  rw [rq_if]
  refine rq_bind _ _ ?_
  show F__check_numbers_k6 S h = _
  unfold F__check_numbers_k6
  rw [rq_if]
  refine rq_bind _ _ ?_
  show F__check_numbers_k7 S h = _
  unfold F__check_numbers_k7
  exact rq_or _ _
def sB (S : St_Settings) (x : Int) : Bool := decide (0 ≤ x) && decide (x < S.slots)
theorem loop_eq (S : St_Settings) : ∀ xs : List Int, forS xs () (fun _ x => F__check_slots_b1 S x) = rq (xs.all (sB S))
  | [] => rfl
  | x :: r => by
    rw [List.all_cons]
    show (F__check_slots_b1 S x).bind (fun _ => forS r () (fun _ x => F__check_slots_b1 S x)) = _
    have e : F__check_slots_b1 S x = rq (sB S x) := by
      unfold F__check_slots_b1
      rw [rq_req]
      show (rq (sB S x)).bind _ = _
      cases sB S x <;> rfl
    rw [e]
    exact rq_bind _ _ (loop_eq S r)
theorem slots_eq (S : St_Settings) (h : St_PictureHeader) (h1 : h.store.length ≤ 50) (h2 : h.refs.length ≤ 50) (hk : hasG CNT h.kind = true) :
    F__check_slots S h = rq ((h.store ++ h.refs).all (sB S) && (decide (h.store = sortSet h.store) && decide ((h.refs.length : Int) ∈ dictG CNT h.kind))) := by
  unfold F__check_slots
  rw [grd_pos (by omega), loop_eq]
  refine rq_bind _ _ ?_
  show F__check_slots_r1 h = _
  unfold F__check_slots_r1
  rw [grd_pos h1, rq_req]
  refine rq_bind _ _ ?_
  show grd (hasG CNT h.kind = true) _ = _
  rw [grd_pos hk, rq_req]
  show (rq (decide ((h.refs.length : Int) ∈ dictG CNT h.kind))).bind _ = _
  cases decide ((h.refs.length : Int) ∈ dictG CNT h.kind) <;> rfl
theorem kind_has {k : Str} (h : k ∈ ([("I" : Str), ("P" : Str), ("B" : Str)] : List Str)) : hasG CNT k = true := by
  simp only [List.mem_cons, List.not_mem_nil, or_false] at h
  rcases h with rfl | rfl | rfl <;> decide +kernel
section
variable {S : St_Settings} {n : Int} {k : Str} {l : Int} {st rf : List Int} {w ly ed : Int} {sh : Bool}
theorem nB_iff : nB S ⟨n, k, l, st, rf, w, ly, sh, ed⟩ = true ↔ (0 ≤ n ∧ n ≤ 999) ∧ k ∈ ([("I" : Str), ("P" : Str), ("B" : Str)] : List Str) ∧ (0 ≤ l ∧ l ≤ 31) ∧ (0 ≤ w ∧ w ≤ 16) ∧ (w = 8 ∨ k = "B") ∧ (0 ≤ ly ∧ ly < S.layers) ∧ (-6 ≤ ed ∧ ed ≤ 6) ∧ (ed = 0 ∨ S.deblock = true) := by
  have e : (V.str k = V.str ("B" : Str)) ↔ k = "B" := ⟨fun h => V.str.inj h, fun h => h ▸ rfl⟩
  unfold nB
  simp only [Bool.and_eq_true, Bool.or_eq_true, decide_eq_true_iff, e]
theorem hok_iff : (nB S ⟨n, k, l, st, rf, w, ly, sh, ed⟩ = true ∧ ((st ++ rf).all (sB S) && (decide (st = sortSet st) && decide ((rf.length : Int) ∈ dictG CNT k))) = true) ↔ HOk S n k l st rf w ly ed := by
  have e : ∀ x, sB S x = true ↔ (0 ≤ x ∧ x < S.slots) := fun x => by unfold sB; rw [Bool.and_eq_true, decide_eq_true_iff, decide_eq_true_iff]
  rw [nB_iff, Bool.and_eq_true, Bool.and_eq_true, decide_eq_true_iff, decide_eq_true_iff, List.all_eq_true]
  constructor
  · rintro ⟨⟨a, b, c, d, f, g, h, i⟩, j, m, o⟩
    exact ⟨a, b, c, d, f, g, h, i, fun x hx => (e x).mp (j x hx), m, o⟩
  · rintro ⟨a, b, c, d, f, g, h, i, j, m, o⟩
    exact ⟨⟨a, b, c, d, f, g, h, i⟩, fun x hx => (e x).mpr (j x hx), m, o⟩
theorem pic_ok (h1 : st.length ≤ 50) (h2 : rf.length ≤ 50) (h : HOk S n k l st rf w ly ed) : F_PictureHeader___init__ S n k l st rf w ly sh ed = .ok ⟨n, k, l, st, rf, w, ly, sh, ed⟩ := by
  have z := (hok_iff (sh := sh)).mpr h
  unfold F_PictureHeader___init__
  rw [numbers_eq, z.1, slots_eq S ⟨n, k, l, st, rf, w, ly, sh, ed⟩ h1 h2 (kind_has h.kind), z.2]
  rfl
theorem pic_er (h1 : st.length ≤ 50) (h2 : rf.length ≤ 50) (h : ¬ HOk S n k l st rf w ly ed) : F_PictureHeader___init__ S n k l st rf w ly sh ed = .er rqE := by
  unfold F_PictureHeader___init__
  rw [numbers_eq]
  cases e : nB S ⟨n, k, l, st, rf, w, ly, sh, ed⟩ with
  | false => rfl
  | true =>
    rw [slots_eq S ⟨n, k, l, st, rf, w, ly, sh, ed⟩ h1 h2 (kind_has (nB_iff.mp e).2.1)]
    cases e2 : ((st ++ rf).all (sB S) && (decide (st = sortSet st) && decide ((rf.length : Int) ∈ dictG CNT k))) with
    | false => rfl
    | true => exact absurd (hok_iff.mp ⟨e, e2⟩) h
end
section
abbrev PL (nu kd lv : Int) (st rf : List Int) (wt ly sh ed : Int) : List PyData := [.int nu, .int kd, .int lv, encL PyData.int st, encL PyData.int rf, .int wt, .int ly, .int sh, .int ed]
theorem ok_L (xs : List Int) : (cL cI).ok (encL PyData.int xs) = true := (cL cI).oke xs
theorem de_L (xs : List Int) : (cL cI).dec (encL PyData.int xs) = xs := (cL cI).de xs
def nm (kd : Int) : Str := itD [("I" : Str), ("P" : Str), ("B" : Str)] kd
theorem k3 {kd : Int} (h : 0 ≤ kd ∧ kd < 3) : kd = 0 ∨ kd = 1 ∨ kd = 2 := by omega
end
abbrev NL (w h d c s r a b l : Int) : List Int := [w, h, d, c, s, r, a, b, l]
theorem fm_filter {q : Int → Bool} : ∀ xs : List Int, (xs.filterMap fun x => if q x = true then some x else none) = xs.filter q
  | [] => rfl
  | x :: r => by
    rw [List.filterMap_cons, List.filter_cons, fm_filter r]
    by_cases h : q x = true
    · rw [if_pos h, if_pos h]
    · rw [if_neg h, if_neg h]
theorem rng_pw (n : Nat) : (rng 0 n).Pairwise (· < ·) := by
  unfold rng
  rw [List.pairwise_map]
  exact List.pairwise_lt_range.imp fun {a b} h => by omega
section
variable {w h d c s r a b l : Int}
theorem k4_gv {D : List Int} {d0 d1 d2 d3 d4 d5 d6 d7 d8 d9 d10 d11 d12 d13 kd wt : Int} {st rf : List Int} (hD : D = [d0, d1, d2, d3, d4, d5, d6, d7, d8, d9, d10, d11, d12, d13]) (h13 : 0 ≤ d13 ∧ d13 < 13) (ha : 0 ≤ a ∧ a ≤ 1) (hl : 1 ≤ l ∧ l ≤ 4)
    (hk : 0 ≤ kd ∧ kd < 3) (hw : 0 ≤ wt ∧ wt ≤ 16) (hw2 : wt = 8 ∨ kd = 2) (hs : ∀ x ∈ st ++ rf, 0 ≤ x ∧ x < s) (hst : st = sortSet st) (hrf : (rf.length : Int) ∈ dictG CNT (nm kd)) (h1 : st.length ≤ 4) (h2 : rf.length ≤ 4) :
    Gv (F__law_picture_k4 (NL w h d c s r a b l) D kd st rf wt) (fun p => ∃ nu kd lv st rf wt ly sh ed, p = PL nu kd lv st rf wt ly sh ed ∧ (0 ≤ kd ∧ kd < 3) ∧ st.length ≤ 4 ∧ rf.length ≤ 4 ∧ HOk (setv w h d c s r a b l) nu (nm kd) lv st rf wt ly ed) := by
  subst hD
  have gd : ∀ k : Int, 0 ≤ k ∧ k < 14 → -(([d0, d1, d2, d3, d4, d5, d6, d7, d8, d9, d10, d11, d12, d13] : List Int).length : Int) ≤ k ∧ k < (([d0, d1, d2, d3, d4, d5, d6, d7, d8, d9, d10, d11, d12, d13] : List Int).length : Int) := fun k z => by show -(14 : Int) ≤ k ∧ k < (14 : Int); omega
  have gn : ∀ k : Int, 0 ≤ k ∧ k < 9 → -((NL w h d c s r a b l).length : Int) ≤ k ∧ k < ((NL w h d c s r a b l).length : Int) := fun k z => by show -(9 : Int) ≤ k ∧ k < (9 : Int); omega
  have ea : itD (NL w h d c s r a b l) 6 = a := rfl
  have el : itD (NL w h d c s r a b l) 8 = l := rfl
  have e13 : itD [d0, d1, d2, d3, d4, d5, d6, d7, d8, d9, d10, d11, d12, d13] 13 = d13 := rfl
  have e11 : itD [d0, d1, d2, d3, d4, d5, d6, d7, d8, d9, d10, d11, d12, d13] 11 = d11 := rfl
  unfold F__law_picture_k4
  rw [ea, el, e13, e11]
  refine Gv.grd (gd 0 (by decide)) (Gv.grd (gd 1 (by decide)) (Gv.bind (between_gv _ _ 0 999 (by decide)) fun nu hnu => Gv.grd (gd 3 (by decide)) (Gv.grd (gd 4 (by decide)) (Gv.bind (between_gv _ _ 0 31 (by decide)) fun lv hlv => Gv.grd (gd 11 (by decide)) (Gv.grd (gn 8 (by decide)) (Gv.grd (by omega) (Gv.grd (gd 12 (by decide)) (Gv.grd (gn 6 (by decide)) (Gv.grd (gd 13 (by decide)) (Gv.grd (.inl ⟨by omega, by omega⟩) (.ok ?_)))))))))))
  have m0 := Int.emod_nonneg d11 (show l ≠ 0 by omega)
  have m1 := Int.emod_lt_of_pos d11 (show 0 < l by omega)
  refine ⟨nu, kd, lv, st, rf, wt, d11 % l, _, a * (d13 - 6), rfl, hk, h1, h2, ⟨hnu, ?_, hlv, hw, ?_, ⟨m0, m1⟩, ?_, ?_, hs, hst, hrf⟩⟩
  · rcases k3 hk with rfl | rfl | rfl <;> decide +kernel
  · rcases hw2 with z | rfl
    · exact .inl z
    · exact .inr rfl
  · rcases (show a = 0 ∨ a = 1 by omega) with rfl | rfl <;> omega
  · rcases (show a = 0 ∨ a = 1 by omega) with rfl | rfl
    · exact .inl (Int.zero_mul _)
    · exact .inr rfl
theorem picture_gv (cell : Int) (ha : 0 ≤ a ∧ a ≤ 1) (hs : 1 ≤ s ∧ s ≤ 4) (hl : 1 ≤ l ∧ l ≤ 4) :
    Gv (F__law_picture cell (NL w h d c s r a b l)) (fun p => ∃ nu kd lv st rf wt ly sh ed, p = PL nu kd lv st rf wt ly sh ed ∧ (0 ≤ kd ∧ kd < 3) ∧ st.length ≤ 4 ∧ rf.length ≤ 4 ∧ HOk (setv w h d c s r a b l) nu (nm kd) lv st rf wt ly ed) := by
  unfold F__law_picture
  refine Gv.bind (draws_gv _ _ (by decide +kernel) (by decide +kernel)) fun v hv => ?_
  obtain ⟨d0, r0, rfl, _, _, hv⟩ := hv.cons
  obtain ⟨d1, r1, rfl, _, _, hv⟩ := hv.cons
  obtain ⟨d2, r2, rfl, b2, c2, hv⟩ := hv.cons
  obtain ⟨d3, r3, rfl, _, _, hv⟩ := hv.cons
  obtain ⟨d4, r4, rfl, _, _, hv⟩ := hv.cons
  obtain ⟨d5, r5, rfl, _, _, hv⟩ := hv.cons
  obtain ⟨d6, r6, rfl, _, _, hv⟩ := hv.cons
  obtain ⟨d7, r7, rfl, _, _, hv⟩ := hv.cons
  obtain ⟨d8, r8, rfl, _, _, hv⟩ := hv.cons
  obtain ⟨d9, r9, rfl, _, _, hv⟩ := hv.cons
  obtain ⟨d10, r10, rfl, _, _, hv⟩ := hv.cons
  obtain ⟨d11, r11, rfl, _, _, hv⟩ := hv.cons
  obtain ⟨d12, r12, rfl, _, _, hv⟩ := hv.cons
  obtain ⟨d13, r13, rfl, b13, c13, hv⟩ := hv.cons
  obtain rfl := hv.nil
  generalize hD : ([d0, d1, d2, d3, d4, d5, d6, d7, d8, d9, d10, d11, d12, d13] : List Int) = D
  have gd : ∀ k : Int, 0 ≤ k ∧ k < 14 → -((D : List Int).length : Int) ≤ k ∧ k < ((D : List Int).length : Int) := fun k z => by rw [← hD]; show -(14 : Int) ≤ k ∧ k < (14 : Int); omega
  have gn : ∀ k : Int, 0 ≤ k ∧ k < 9 → -((NL w h d c s r a b l).length : Int) ≤ k ∧ k < ((NL w h d c s r a b l).length : Int) := fun k z => by show -(9 : Int) ≤ k ∧ k < (9 : Int); omega
  have es : itD (NL w h d c s r a b l) 4 = s := rfl
  have e2 : itD D 2 = d2 := by rw [← hD]; rfl
  rw [es, e2]
  have fm : mapF (rng 0 (Int.toNat s)) [] (fun x => noEr (F__law_picture_c1 D x)) = .ok ((rng 0 (Int.toNat s)).filter fun x => decide (PySem.Builtin.bitAnd (itD D 5 / 2 ^ Int.toNat x) 1 = 1)) := by
    rw [mapF_pure (g := fun x => if decide (PySem.Builtin.bitAnd (itD D 5 / 2 ^ Int.toNat x) 1 = 1) = true then some x else none) (fun x hx => ?_) (by rw [rng_len]; show 0 + _ ≤ _; omega), List.nil_append, fm_filter]
    have := rng_mem hx
    unfold F__law_picture_c1
    rw [grd_pos (gd 5 (by decide)), grd_pos this.1]
    by_cases z : PySem.Builtin.bitAnd (itD D 5 / 2 ^ Int.toNat x) 1 = 1
    · rw [if_pos z, if_pos (decide_eq_true z)]; rfl
    · rw [if_neg z, if_neg (by rw [decide_eq_true_iff]; exact z)]; rfl
  refine Gv.grd (gd 2 (by decide)) (Gv.bnd fun kd hkd => Gv.grd (gn 4 (by decide)) (Gv.grd ⟨by omega, by omega⟩ (Gv.bind_eq fm (Gv.grd (gd 7 (by decide)) (Gv.grd (gn 4 (by decide)) (Gv.grd (by omega) (Gv.grd (gd 8 (by decide)) (Gv.grd (gn 4 (by decide)) (Gv.grd (by omega) ?_)))))))))
  subst hkd
  generalize hst : (rng 0 (Int.toNat s)).filter (fun x => decide (PySem.Builtin.bitAnd (itD D 5 / 2 ^ Int.toNat x) 1 = 1)) = st
  have s1 : st.length ≤ 4 := by
    rw [← hst]
    refine Nat.le_trans (List.length_filter_le _ _) ?_
    rw [rng_len]
    omega
  have s2 : ∀ x ∈ st, 0 ≤ x ∧ x < s := fun x hx => by
    rw [← hst] at hx
    have := rng_mem (List.mem_filter.mp hx).1
    omega
  have s3 : st = sortSet st := sortSet_of (by rw [← hst]; exact (rng_pw _).filter _) fun _ => Iff.rfl
  have m : ∀ z : Int, 0 ≤ z % s ∧ z % s < s := fun z => ⟨Int.emod_nonneg z (by omega), Int.emod_lt_of_pos z (by omega)⟩
  refine Gv.bind (P := fun rf => (kd = 0 ∧ rf = []) ∨ (kd ≠ 0 ∧ ∃ x y, rf = [x, y] ∧ (0 ≤ x ∧ x < s) ∧ 0 ≤ y ∧ y < s)) (Gv.ite (fun z => .ok (.inl ⟨z, rfl⟩)) fun z => .ok (.inr ⟨z, _, _, rfl, m _, m _⟩)) fun rf hrf => ?_
  unfold F__law_picture_k2
  refine Gv.bind (P := fun rf => rf.length ≤ 4 ∧ (∀ x ∈ rf, 0 ≤ x ∧ x < s) ∧ (rf.length : Int) ∈ dictG CNT (nm kd)) ?_ fun rf hrf => ?_
  · have base : ¬ (kd = 1) → rf.length ≤ 4 ∧ (∀ x ∈ rf, 0 ≤ x ∧ x < s) ∧ (rf.length : Int) ∈ dictG CNT (nm kd) := fun n1 => by
      rcases hrf with ⟨z, rfl⟩ | ⟨z, x, y, rfl, hx, hy⟩
      · subst z
        exact ⟨by decide, fun x hx => (List.not_mem_nil hx).elim, by decide +kernel⟩
      · have : kd = 2 := by omega
        subst this
        refine ⟨by show 2 ≤ 4; decide, fun u hu => ?_, ?_⟩
        · simp only [List.mem_cons, List.not_mem_nil, or_false] at hu
          rcases hu with rfl | rfl <;> assumption
        · show (2 : Int) ∈ _
          decide +kernel
    refine Gv.ite (fun z => Gv.grd (gd 6 (by decide)) ?_) fun z => .ok (base z)
    subst z
    rcases hrf with ⟨z, _⟩ | ⟨_, x, y, rfl, hx, hy⟩
    · cases z
    refine Gv.ite (fun _ => .ok ?_) fun _ => .ok ?_
    · show ([x] : List Int).length ≤ 4 ∧ (∀ u ∈ ([x] : List Int), 0 ≤ u ∧ u < s) ∧ (1 : Int) ∈ dictG CNT (nm 1)
      refine ⟨by show 1 ≤ 4; decide, fun u hu => ?_, by decide +kernel⟩
      rw [List.mem_singleton.mp hu]; exact hx
    · refine ⟨by show 2 ≤ 4; decide, fun u hu => ?_, ?_⟩
      · simp only [List.mem_cons, List.not_mem_nil, or_false] at hu
        rcases hu with rfl | rfl <;> assumption
      · show (2 : Int) ∈ _
        decide +kernel
  unfold F__law_picture_k3
  refine Gv.bind (P := fun wt => (0 ≤ wt ∧ wt ≤ 16) ∧ (wt = 8 ∨ kd = 2)) (Gv.ite (fun z => Gv.grd (gd 9 (by decide)) (Gv.grd (gd 10 (by decide)) (Gv.bind (between_gv _ _ 0 16 (by decide)) fun u hu => .ok ⟨hu, .inr z⟩))) fun _ => .ok ⟨by decide, .inl rfl⟩) fun wt hwt => ?_
  exact k4_gv hD.symm ⟨b13, c13⟩ ha hl ⟨b2, c2⟩ hwt.1 hwt.2 (fun x hx => (List.mem_append.mp hx).elim (s2 x) (hrf.2.1 x)) s3 hrf.2.2 s1 hrf.1
theorem header_ok {nu kd lv wt ly sh ed : Int} {st rf : List Int} {S : St_Settings} (hk : 0 ≤ kd ∧ kd < 3) (h1 : st.length ≤ 4) (h2 : rf.length ≤ 4) (H : HOk S nu (nm kd) lv st rf wt ly ed) :
    F__law_header S (PL nu kd lv st rf wt ly sh ed) = .ok ⟨nu, nm kd, lv, st, rf, wt, ly, decide (sh = 1), ed⟩ := by
  have gp : ∀ k : Int, 0 ≤ k ∧ k < 9 → -((PL nu kd lv st rf wt ly sh ed).length : Int) ≤ k ∧ k < ((PL nu kd lv st rf wt ly sh ed).length : Int) := fun k z => by show -(9 : Int) ≤ k ∧ k < (9 : Int); omega
  have e3 : (cL cI).dec (itD (PL nu kd lv st rf wt ly sh ed) 3) = st := de_L st
  have e4 : (cL cI).dec (itD (PL nu kd lv st rf wt ly sh ed) 4) = rf := de_L rf
  unfold F__law_header
  rw [e3, e4]
  refine Gv.get (Gv.grd (gp 1 (by decide)) (Gv.grd rfl (Gv.grd (by show -(3 : Int) ≤ kd ∧ kd < 3; omega) (Gv.grd (gp 0 (by decide)) (Gv.grd rfl (Gv.grd (gp 2 (by decide)) (Gv.grd rfl (Gv.grd (gp 3 (by decide)) (Gv.grd (ok_L st) (Gv.grd (gp 4 (by decide)) (Gv.grd (ok_L rf) (Gv.grd (gp 5 (by decide)) (Gv.grd rfl (Gv.grd (gp 6 (by decide)) (Gv.grd rfl (Gv.grd (gp 7 (by decide)) (Gv.grd rfl (Gv.grd (gp 8 (by decide)) (Gv.grd rfl ?_)))))))))))))))))))
  exact Gv.bind_eq (pic_ok (sh := decide (sh = 1)) (by omega) (by omega) H) (.ok rfl)
end
namespace Pb
theorem len_rep1 {α : Type} (a : α) (k : Int) : (repL [a] k).length = k.toNat := by
  unfold repL
  simp
theorem mem_rep1 {α : Type} {a x : α} {k : Int} (h : x ∈ repL [a] k) : x = a := by
  unfold repL at h
  simp at h
  exact h.2
theorem itD_nat {α : Type} [Inhabited α] {e : List α} {k : Nat} {x : α} (h : e[k]? = some x) : itD e (k : Int) = x := by
  unfold itD atI ixN
  have hk := (List.getElem?_eq_some_iff.mp h).1
  rw [if_pos (by omega), if_pos (by omega)]
  simp [h]
theorem itD_mem {α : Type} [Inhabited α] {e : List α} {k : Int} (h : -(e.length : Int) ≤ k ∧ k < e.length) : itD e k ∈ e := by
  obtain ⟨j, hj, hl⟩ := ixN_some h
  unfold itD atI
  rw [hj]
  show (e[j]?).getD default ∈ e
  rw [List.getElem?_eq_getElem hl]
  exact List.getElem_mem hl
def num (xs : List Int) : Int := xs.foldl (fun a x => a * 256 + x) 0
theorem num_snoc (xs : List Int) (x : Int) : num (xs ++ [x]) = num xs * 256 + x := by
  unfold num
  rw [List.foldl_append] <;> rfl
theorem snocInd {α : Type} {motive : List α → Prop} (nil : motive []) (snoc : ∀ xs x, motive xs → motive (xs ++ [x])) (xs : List α) : motive xs := by
  have : ∀ l : List α, motive l.reverse := by
    intro l
    induction l with
    | nil => exact nil
    | cons x r ih =>
      rw [List.reverse_cons]
      exact snoc _ _ ih
  have h := this xs.reverse
  rwa [List.reverse_reverse] at h
theorem last_in {xs : List Int} (h : xs ≠ []) : -(xs.length : Int) ≤ -1 ∧ -1 < (xs.length : Int) := by
  have := List.length_pos_iff.mpr h
  omega
theorem itD_last {xs : List Int} (h : xs ≠ []) : itD xs (-1) = xs.getLast h := by
  unfold itD atI ixN
  have := List.length_pos_iff.mpr h
  rw [if_neg (by omega), if_pos (by omega)]
  have e : (-1 + (xs.length : Int)).toNat = xs.length - 1 := by omega
  show (xs[(-1 + (xs.length : Int)).toNat]?).getD default = _
  rw [e, ← List.getLast?_eq_getElem?, List.getLast?_eq_some_getLast h] <;> rfl
theorem itD_end {e : List Int} {a : Int} : itD (e ++ [a]) (-1) = a := by
  rw [itD_last (by simp), List.getLast_append] <;> simp
def digs (n : Int) (k : Nat) : List Int := (List.range k).map fun j => n / 2 ^ (8 * (k - 1 - j)) % 256
theorem digs_snoc (n x : Int) (k : Nat) (hx : 0 ≤ x ∧ x ≤ 255) : digs (n * 256 + x) (k + 1) = digs n k ++ [x] := by
  unfold digs
  rw [List.range_succ, List.map_append]
  congr 1
  · apply List.map_congr_left
    intro j hj
    have hj := List.mem_range.mp hj
    show (n * 256 + x) / 2 ^ (8 * (k + 1 - 1 - j)) % 256 = n / 2 ^ (8 * (k - 1 - j)) % 256
    rw [show 8 * (k + 1 - 1 - j) = 8 + 8 * (k - 1 - j) from by omega, Int.pow_add, ← Int.ediv_ediv_of_nonneg (by decide)]
    rw [show (n * 256 + x) / 2 ^ 8 = n from by omega]
  · show [(n * 256 + x) / 2 ^ (8 * (k + 1 - 1 - k)) % 256] = [x]
    rw [show 8 * (k + 1 - 1 - k) = 0 from by omega]
    congr 1
    simp
    omega
theorem digs_num : ∀ {xs : List Int}, (∀ x ∈ xs, 0 ≤ x ∧ x ≤ 255) → digs (num xs) xs.length = xs := by
  intro xs
  refine snocInd (motive := fun xs => (∀ x ∈ xs, 0 ≤ x ∧ x ≤ 255) → digs (num xs) xs.length = xs) (fun _ => rfl) (fun ys y ih h => ?_) xs
  rw [num_snoc, List.length_append]
  show digs _ (ys.length + 1) = _
  rw [digs_snoc _ _ _ (h y (by simp)), ih fun x hx => h x (by simp [hx])]
theorem mem_cutL {α : Type} {xs : List α} {lo hi : Option Int} {x : α} (h : x ∈ cutL xs lo hi) : x ∈ xs := by
  unfold cutL at h
  exact List.mem_of_mem_drop (List.mem_of_mem_take h)
abbrev BwS := St_BitWriter
abbrev BrS := St_BitReader
structure BwG (w : BwS) : Prop where
  bits : 0 ≤ w.bits ∧ w.bits ≤ 7
  rest : 0 ≤ w.rest ∧ w.rest < 2 ^ w.bits.toNat
structure BrG (s : BrS) : Prop where
  oct : ∀ x ∈ s.octs, 0 ≤ x ∧ x ≤ 255
  place : 0 ≤ s.place
  stop : s.stop ≤ 8 * (s.octs.length : Int)
def bwAdd (w : BwS) (v c : Int) : BwS :=
  ⟨w.full ++ digs ((w.rest * 2 ^ c.toNat + v) / 2 ^ ((w.bits + c) % 8).toNat) ((w.bits + c) / 8).toNat, (w.rest * 2 ^ c.toNat + v) % 2 ^ ((w.bits + c) % 8).toNat, (w.bits + c) % 8⟩
def bwUe (w : BwS) (v : Int) : BwS := bwAdd w (v + 1) (2 * ((PySem.Builtin.Int.intBits (v + 1) : Nat) : Int) - 1)
def seCode (v : Int) : Int := if 0 < v then 2 * v - 1 else -2 * v
def seBack (c : Int) : Int := if (PySem.Builtin.bitAnd c 1 != 0) = true then (c + 1) / 2 else -(c / 2)
theorem pow7 {b : Int} (h : 0 ≤ b ∧ b ≤ 7) : (2 : Int) ^ b.toNat ≤ 128 := by
  have : b.toNat ≤ 7 := by omega
  have h2 := Nat.pow_le_pow_right (n := 2) (by decide) this
  exact_mod_cast h2
theorem small_rest {w : BwS} (h : BwG w) : 0 ≤ w.rest ∧ w.rest < 128 := by
  have a := pow7 h.bits
  have b := h.rest
  omega
theorem pow_pos2 (n : Nat) : (0 : Int) < 2 ^ n := by
  have : (0 : Nat) < 2 ^ n := Nat.pow_pos (by decide)
  exact_mod_cast this
theorem or_lowN {v o : Int} {n : Nat} (h : 0 ≤ v) (h0 : 0 ≤ o) (h1 : o < 2 ^ n) : PySem.Builtin.bitOr (v * 2 ^ n) o = v * 2 ^ n + o := by
  obtain ⟨a, rfl⟩ := Int.eq_ofNat_of_zero_le h
  obtain ⟨b, rfl⟩ := Int.eq_ofNat_of_zero_le h0
  have hb : b < 2 ^ n := by exact_mod_cast h1
  have z : (a * 2 ^ n) &&& b = 0 := by
    apply Nat.eq_of_testBit_eq
    intro i
    rw [Nat.testBit_and, Nat.zero_testBit, Nat.testBit_mul_two_pow]
    by_cases hi : n ≤ i
    · have e : b.testBit i = false := Nat.testBit_lt_two_pow (Nat.lt_of_lt_of_le hb (Nat.pow_le_pow_right (by decide) hi))
      rw [e, Bool.and_false]
    · simp [hi]
  have c1 : ((a : Int) * 2 ^ n) = ((a * 2 ^ n : Nat) : Int) := by
    push_cast
    rfl
  rw [c1, PyProof.Rows.bitOr_and, PyProof.Rows.bitAnd_pp (by omega) (by omega)]
  rw [show (((a * 2 ^ n : Nat) : Int)).toNat = a * 2 ^ n from rfl, show ((b : Int)).toNat = b from rfl, z]
  exact Int.sub_zero _
structure AddR (T L : Int) (full0 full : List Int) (rest left : Int) : Prop where
  nn : 0 ≤ left
  ex : ∃ j : Nat, left + 8 * (j : Int) = L ∧ full = full0 ++ digs (T / 2 ^ left.toNat) j
  rest : rest = T % 2 ^ left.toNat
theorem mask_pow (x : Int) (n : Nat) : PySem.Builtin.bitAnd x (1 * 2 ^ n - 1) = x % 2 ^ n := by
  rw [Int.one_mul]
  exact PySem.W.kbt_mask x n
theorem mod_div (T : Int) {p : Int} (hp : 0 < p) : T % (p * 2 ^ 8) / p = T / p % 256 := by
  have h1 := Int.emod_def T (p * 2 ^ 8)
  rw [h1, show p * 2 ^ 8 * (T / (p * 2 ^ 8)) = p * (256 * (T / (p * 2 ^ 8))) from by rw [Int.mul_assoc]; rfl]
  rw [Int.sub_mul_ediv_left _ _ (by omega), Int.emod_def, ← Int.ediv_ediv_of_nonneg (Int.le_of_lt hp)]
  rfl
theorem mod_mod_mul (T p q : Int) : T % (p * q) % p = T % p := Int.emod_emod_of_dvd T (Int.dvd_mul_right p q)
theorem digs_len (n : Int) (k : Nat) : (digs n k).length = k := by
  unfold digs
  rw [List.length_map, List.length_range]
theorem AddR.len {T L : Int} {full0 full : List Int} {rest left : Int} (h : AddR T L full0 full rest left) : 8 * (full.length : Int) ≤ 8 * (full0.length : Int) + L := by
  obtain ⟨j, e1, e2⟩ := h.ex
  have := h.nn
  rw [e2, List.length_append, digs_len]
  omega
theorem AddR.le {T L : Int} {full0 full : List Int} {rest left : Int} (h : AddR T L full0 full rest left) : left ≤ L := by
  obtain ⟨j, e1, e2⟩ := h.ex
  omega
theorem total_in {w : BwS} {v c : Int} (h : BwG w) (hc : 0 ≤ c) (hv : 0 ≤ v ∧ v < 2 ^ c.toNat) : 0 ≤ w.rest * 2 ^ c.toNat + v ∧ w.rest * 2 ^ c.toNat + v < 2 ^ (w.bits + c).toNat := by
  have hb := h.bits
  have hr := h.rest
  have p := pow_pos2 c.toNat
  have a : 0 ≤ w.rest * 2 ^ c.toNat := Int.mul_nonneg hr.1 (Int.le_of_lt p)
  have b : (w.rest + 1) * 2 ^ c.toNat ≤ 2 ^ w.bits.toNat * 2 ^ c.toNat := Int.mul_le_mul_of_nonneg_right (by omega) (Int.le_of_lt p)
  rw [← Int.pow_add, show w.bits.toNat + c.toNat = (w.bits + c).toNat from by omega, Int.add_mul, Int.one_mul] at b
  exact ⟨by omega, by omega⟩
theorem add_start {w : BwS} {v c : Int} (h : BwG w) (hc : 0 ≤ c) (hv : 0 ≤ v ∧ v < 2 ^ c.toNat) : AddR (w.rest * 2 ^ c.toNat + v) (w.bits + c) w.full w.full (PySem.Builtin.bitOr (w.rest * 2 ^ c.toNat) v) (w.bits + c) := by
  have t := total_in h hc hv
  have hb := h.bits
  refine ⟨by omega, ⟨0, by omega, by rw [show digs _ 0 = [] from rfl, List.append_nil]⟩, ?_⟩
  rw [or_lowN h.rest.1 hv.1 hv.2, Int.emod_eq_of_lt t.1 t.2]
theorem add_turn {T L : Int} {full0 full : List Int} {rest left : Int} (h : AddR T L full0 full rest left) (h8 : 8 ≤ left) :
    AddR T L full0 (full ++ [rest / 2 ^ (left - 8).toNat]) (PySem.Builtin.bitAnd rest (1 * 2 ^ (left - 8).toNat - 1)) (left - 8) := by
  obtain ⟨j, e1, e2⟩ := h.ex
  have e3 := h.rest
  obtain ⟨k, hk⟩ := Int.eq_ofNat_of_zero_le (show 0 ≤ left - 8 by omega)
  have hl : left.toNat = k + 8 := by omega
  have hk2 : (left - 8).toNat = k := by omega
  rw [hl] at e2 e3
  rw [hk2]
  have hp := pow_pos2 k
  have hd : rest / 2 ^ k = T / 2 ^ k % 256 := by
    rw [e3, Int.pow_add]
    exact mod_div T hp
  have hm : rest % 2 ^ k = T % 2 ^ k := by
    rw [e3, Int.pow_add]
    exact mod_mod_mul _ _ _
  refine ⟨by omega, ⟨j + 1, by omega, ?_⟩, ?_⟩
  · rw [hk2, e2, hd, List.append_assoc]
    congr 1
    have hq : T / 2 ^ k = T / 2 ^ (k + 8) * 256 + T / 2 ^ k % 256 := by
      rw [Int.pow_add, ← Int.ediv_ediv_of_nonneg (Int.le_of_lt hp)]
      show _ = T / 2 ^ k / 256 * 256 + _
      omega
    rw [hq, digs_snoc _ _ _ (by omega)]
    congr 1
    congr 1
    omega
  · rw [mask_pow, hm, hk2]
theorem add_end {w : BwS} {v c : Int} {full : List Int} {rest left : Int} (h : AddR (w.rest * 2 ^ c.toNat + v) (w.bits + c) w.full full rest left) (h8 : left < 8) : (⟨full, rest, left⟩ : BwS) = bwAdd w v c := by
  obtain ⟨j, e1, e2⟩ := h.ex
  have e3 := h.rest
  have hl := h.nn
  have a : (w.bits + c) % 8 = left := by omega
  have b : ((w.bits + c) / 8).toNat = j := by omega
  unfold bwAdd
  rw [a, b, e2, e3]
theorem ib_spec {n : Int} (h : 0 < n) : ∃ k : Nat, PySem.Builtin.Int.intBits n = k + 1 ∧ (2 : Int) ^ k ≤ n ∧ n < 2 ^ (k + 1) := by
  obtain ⟨m, rfl⟩ := Int.eq_ofNat_of_zero_le (Int.le_of_lt h)
  have hm : m ≠ 0 := by omega
  refine ⟨m.log2, ?_, ?_, ?_⟩
  · unfold PySem.Builtin.Int.intBits
    rw [if_neg (by simp; omega)]
    rfl
  · exact_mod_cast Nat.log2_self_le hm
  · exact_mod_cast Nat.lt_log2_self
theorem pow_lt_of {k n : Nat} (h : (2 : Int) ^ k < 2 ^ n) : k < n := by
  have h2 : 2 ^ k < 2 ^ n := by exact_mod_cast h
  exact (Nat.pow_lt_pow_iff_right (by decide)).mp h2
theorem pow_mono {k n : Nat} (h : k ≤ n) : (2 : Int) ^ k ≤ 2 ^ n := by
  have := Nat.pow_le_pow_right (n := 2) (by decide) h
  exact_mod_cast this
theorem ue_in {v : Int} (h0 : 0 ≤ v) (h1 : v ≤ 4294967296) : (0 ≤ 2 * ((PySem.Builtin.Int.intBits (v + 1) : Nat) : Int) - 1 ∧ 2 * ((PySem.Builtin.Int.intBits (v + 1) : Nat) : Int) - 1 ≤ 130) ∧
    (0 ≤ v + 1 ∧ v + 1 < 2 ^ (2 * ((PySem.Builtin.Int.intBits (v + 1) : Nat) : Int) - 1).toNat) := by
  obtain ⟨k, e, lo, hi⟩ := ib_spec (n := v + 1) (by omega)
  have hk : k < 33 := pow_lt_of (Int.lt_of_le_of_lt lo (by show v + 1 < 8589934592; omega))
  rw [e]
  refine ⟨by omega, by omega, ?_⟩
  exact Int.lt_of_lt_of_le hi (pow_mono (by omega))
def lastBit (o : Int) : Int :=
  if o % 2 = 1 then 1 else if o % 4 = 2 then 2 else if o % 8 = 4 then 3 else if o % 16 = 8 then 4 else if o % 32 = 16 then 5 else if o % 64 = 32 then 6 else if o % 128 = 64 then 7 else 8
theorem eight {b : Int} (h1 : 1 ≤ b) (h8 : b ≤ 8) : b = 1 ∨ b = 2 ∨ b = 3 ∨ b = 4 ∨ b = 5 ∨ b = 6 ∨ b = 7 ∨ b = 8 := by omega
theorem bit_mod (x : Int) : PySem.Builtin.bitAnd x 1 = x % 2 := PySem.W.kbt_mask x 1
theorem lb_turn {o b : Int} (h : 0 < o ∧ o ≤ 255) (h1 : 1 ≤ b) (h8 : b ≤ 8) (hz : o % 2 ^ (b - 1).toNat = 0) (hc : PySem.Builtin.bitAnd (o / 2 ^ (b - 1).toNat) 1 = 0) : 1 ≤ b + 1 ∧ b + 1 ≤ 8 ∧ o % 2 ^ (b + 1 - 1).toNat = 0 := by
  rw [bit_mod] at hc
  rcases eight h1 h8 with rfl | rfl | rfl | rfl | rfl | rfl | rfl | rfl <;> simp at hz hc ⊢ <;> omega
theorem lb_end {o b : Int} (h : 0 < o ∧ o ≤ 255) (h1 : 1 ≤ b) (h8 : b ≤ 8) (hz : o % 2 ^ (b - 1).toNat = 0) (hc : ¬ PySem.Builtin.bitAnd (o / 2 ^ (b - 1).toNat) 1 = 0) : lastBit o = b := by
  rw [bit_mod] at hc
  unfold lastBit
  rcases eight h1 h8 with rfl | rfl | rfl | rfl | rfl | rfl | rfl | rfl <;> simp at hz hc <;> (repeat' split) <;> omega
theorem last_oct {xs : List Int} (h : xs ≠ []) (hz : ¬ itD xs (-1) = 0) (ho : ∀ x ∈ xs, 0 ≤ x ∧ x ≤ 255) : 0 < itD xs (-1) ∧ itD xs (-1) ≤ 255 := by
  have := ho _ (itD_mem (last_in h))
  omega
def brInit (o : List Int) : BrS := ⟨o, 0, 8 * (o.length : Int) - lastBit (itD o (-1))⟩
def brMove (s : BrS) (c : Int) : BrS := ⟨s.octs, s.place + c, s.stop⟩
def lookB (o : List Int) (p c : Int) : Int := num o / 2 ^ (8 * (o.length : Int) - p - c).toNat % 2 ^ c.toNat
def sliceB (o : List Int) (p c : Int) : List Int := cutL o (some (p / 8)) (some ((p + c + 7) / 8))
structure Zeros (s : BrS) (z : Nat) : Prop where
  most : (z : Int) ≤ 32
  fit : s.place + (z : Int) + 1 ≤ s.stop
  zero : ∀ k : Nat, k < z → lookB s.octs (s.place + (k : Int)) 1 = 0
  one : lookB s.octs (s.place + (z : Int)) 1 = 1
theorem zeros_ne {s : BrS} {z : Nat} {q : Int} (h : Zeros s z) (h0 : 0 ≤ q) (h1 : q ≤ (z : Int)) (hc : lookB s.octs (s.place + q) 1 = 0) : q < (z : Int) := by
  rcases (by omega : q < (z : Int) ∨ q = (z : Int)) with a | a
  · exact a
  · rw [a, h.one] at hc
    exact absurd hc (by decide)
theorem zeros_eq {s : BrS} {z : Nat} {q : Int} (h : Zeros s z) (h0 : 0 ≤ q) (h1 : q ≤ (z : Int)) (hc : ¬ lookB s.octs (s.place + q) 1 = 0) : q = (z : Int) := by
  obtain ⟨k, rfl⟩ := Int.eq_ofNat_of_zero_le h0
  rcases (by omega : k < z ∨ (k : Int) = (z : Int)) with a | a
  · exact absurd (h.zero k a) hc
  · exact a
theorem and7 (x : Int) : PySem.Builtin.bitAnd x 7 = x % 8 := PySem.W.kbt_mask x 3
theorem and7_nn (x : Int) : 0 ≤ PySem.Builtin.bitAnd x 7 := by
  rw [and7]
  omega
theorem num_app (xs ys : List Int) : num (xs ++ ys) = num xs * 256 ^ ys.length + num ys := by
  refine snocInd (motive := fun ys => num (xs ++ ys) = num xs * 256 ^ ys.length + num ys) ?_ (fun zs z ih => ?_) ys
  · rw [List.append_nil]
    show num xs = num xs * 1 + 0
    omega
  · rw [← List.append_assoc, num_snoc, num_snoc, ih, List.length_append]
    show _ = num xs * 256 ^ (zs.length + 1) + _
    rw [Int.pow_succ, ← Int.mul_assoc]
    omega
theorem pow256 (n : Nat) : (256 : Int) ^ n = 2 ^ (8 * n) := by
  rw [Int.pow_mul]
  rfl
theorem num_lt {xs : List Int} (h : ∀ x ∈ xs, 0 ≤ x ∧ x ≤ 255) : 0 ≤ num xs ∧ num xs < 256 ^ xs.length := by
  refine snocInd (motive := fun xs => (∀ x ∈ xs, 0 ≤ x ∧ x ≤ 255) → 0 ≤ num xs ∧ num xs < 256 ^ xs.length) (fun _ => ⟨by decide, by decide⟩) (fun ys y ih h => ?_) xs h
  have i := ih fun x hx => h x (by simp [hx])
  have hy := h y (by simp)
  rw [num_snoc, List.length_append]
  show _ ∧ _ < (256 : Int) ^ (ys.length + 1)
  rw [Int.pow_succ]
  omega
theorem slice_mem {o : List Int} {p c : Int} {x : Int} (h : x ∈ sliceB o p c) : x ∈ o := by
  unfold sliceB at h
  exact mem_cutL h
theorem slice_oct {o : List Int} {p c : Int} {i : Nat} {x : Int} (h : ∀ x ∈ o, 0 ≤ x ∧ x ≤ 255) (hi : (sliceB o p c)[i]? = some x) : 0 ≤ x ∧ x ≤ 255 := h x (slice_mem (List.mem_of_getElem? hi))
theorem num_take {xs : List Int} {i : Nat} {x : Int} (hi : xs[i]? = some x) : num (xs.take i) * 256 + x = num (xs.take (i + 1)) := by
  rw [take_succ_get hi, num_snoc]
theorem slice_split {o : List Int} {p c : Int} (hp : 0 ≤ p) (hc : 0 ≤ c) (h : p + c ≤ 8 * (o.length : Int)) :
    ∃ A C : List Int, o = A ++ sliceB o p c ++ C ∧ (A.length : Int) = p / 8 ∧ (C.length : Int) = o.length - (p + c + 7) / 8 ∧ ((sliceB o p c).length : Int) = (p + c + 7) / 8 - p / 8 := by
  obtain ⟨a, ha⟩ := Int.eq_ofNat_of_zero_le (show 0 ≤ p / 8 by omega)
  obtain ⟨b, hb⟩ := Int.eq_ofNat_of_zero_le (show 0 ≤ (p + c + 7) / 8 by omega)
  have hab : a ≤ b := by omega
  have hbl : b ≤ o.length := by omega
  unfold sliceB cutL
  rw [ha, hb, HT.sIx_nat, HT.sIx_nat, Nat.min_eq_left hbl, Nat.min_eq_left (by omega)]
  refine ⟨o.take a, o.drop b, ?_, ?_, ?_, ?_⟩
  · have e : List.drop b o = List.drop (b - a) (List.drop a o) := by
      rw [List.drop_drop]
      congr 1
      omega
    rw [e, List.append_assoc, List.take_append_drop, List.take_append_drop]
  · rw [List.length_take]
    omega
  · rw [List.length_drop]
    omega
  · rw [List.length_take, List.length_drop]
    omega
theorem slice_small {s : BrS} {p c : Int} (h : BrG s) (hp : 0 ≤ p) (hc : 0 ≤ c ∧ c ≤ 65) (hs : p + c ≤ s.stop) (i : Nat) : 0 ≤ num ((sliceB s.octs p c).take i) ∧ num ((sliceB s.octs p c).take i) < 2 ^ 4096 := by
  have hst := h.stop
  obtain ⟨A, C, e, hA, hC, hS⟩ := slice_split (o := s.octs) hp hc.1 (by omega)
  have hl : ((sliceB s.octs p c).take i).length ≤ 500 := by
    rw [List.length_take]
    omega
  have n := num_lt (xs := (sliceB s.octs p c).take i) fun x hx => h.oct x (slice_mem (List.mem_of_mem_take hx))
  refine ⟨n.1, Int.lt_of_lt_of_le n.2 ?_⟩
  rw [pow256]
  exact pow_mono (by omega)
theorem look_eq {s : BrS} {p c : Int} (h : BrG s) (hp : 0 ≤ p) (hc : 0 ≤ c ∧ c ≤ 65) (hs : p + c ≤ s.stop) :
    lookB s.octs p c = PySem.Builtin.bitAnd (num (sliceB s.octs p c) / 2 ^ (PySem.Builtin.bitAnd (-(p + c)) 7).toNat) (1 * 2 ^ c.toNat - 1) := by
  obtain ⟨cn, rfl⟩ := Int.eq_ofNat_of_zero_le hc.1
  have hst := h.stop
  obtain ⟨A, C, e, hA, hC, hS⟩ := slice_split (o := s.octs) hp hc.1 (by omega)
  have hCo : ∀ x ∈ C, 0 ≤ x ∧ x ≤ 255 := fun x hx => h.oct x (by rw [e]; exact List.mem_append_right _ hx)
  have nC := num_lt hCo
  rw [mask_pow, and7]
  unfold lookB
  obtain ⟨pad, hpad⟩ := Int.eq_ofNat_of_zero_le (show 0 ≤ -(p + (cn : Int)) % 8 by omega)
  have hlen : (8 * (s.octs.length : Int) - p - (cn : Int)).toNat = 8 * C.length + pad := by omega
  rw [hlen, hpad]
  have e1 : num s.octs / 2 ^ (8 * C.length + pad) = num (A ++ sliceB s.octs p (cn : Int)) / 2 ^ pad := by
    have e2 : num s.octs = num (A ++ sliceB s.octs p (cn : Int)) * 256 ^ C.length + num C := by
      rw [← num_app, ← e]
    rw [Int.pow_add, ← Int.ediv_ediv_of_nonneg (Int.le_of_lt (pow_pos2 _)), e2, pow256]
    rw [pow256] at nC
    congr 1
    rw [Int.add_comm, Int.add_mul_ediv_right _ _ (by have := pow_pos2 (8 * C.length); omega), Int.ediv_eq_zero_of_lt nC.1 nC.2]
    omega
  rw [e1, num_app, pow256]
  obtain ⟨d, hd⟩ : ∃ d : Nat, 8 * (sliceB s.octs p (cn : Int)).length = d + cn + pad := ⟨8 * (sliceB s.octs p (cn : Int)).length - cn - pad, by omega⟩
  rw [hd, Int.pow_add, Int.pow_add, ← Int.mul_assoc, ← Int.mul_assoc, Int.add_comm, Int.add_mul_ediv_right _ _ (by have := pow_pos2 pad; omega)]
  exact Int.add_mul_emod_self_right _ _ _

def nb (bs : List Int) : Int := bs.foldl (fun a x => a * 2 + x) 0
theorem nb_snoc (xs : List Int) (x : Int) : nb (xs ++ [x]) = nb xs * 2 + x := by
  unfold nb
  rw [List.foldl_append] <;> rfl
theorem nb_app (xs ys : List Int) : nb (xs ++ ys) = nb xs * 2 ^ ys.length + nb ys := by
  refine snocInd (motive := fun ys => nb (xs ++ ys) = nb xs * 2 ^ ys.length + nb ys) ?_ (fun zs z ih => ?_) ys
  · rw [List.append_nil]
    show nb xs = nb xs * 1 + 0
    omega
  · rw [← List.append_assoc, nb_snoc, nb_snoc, ih, List.length_append]
    show _ = nb xs * 2 ^ (zs.length + 1) + _
    rw [Int.pow_succ, ← Int.mul_assoc]
    omega
def B01 (bs : List Int) : Prop := ∀ b ∈ bs, 0 ≤ b ∧ b ≤ 1
theorem nb_lt {bs : List Int} (h : B01 bs) : 0 ≤ nb bs ∧ nb bs < 2 ^ bs.length := by
  refine snocInd (motive := fun bs => B01 bs → 0 ≤ nb bs ∧ nb bs < 2 ^ bs.length) (fun _ => ⟨by decide, by decide⟩) (fun ys y ih h => ?_) bs h
  have i := ih fun x hx => h x (by simp [hx])
  have hy := h y (by simp)
  rw [nb_snoc, List.length_append]
  show _ ∧ _ < (2 : Int) ^ (ys.length + 1)
  rw [Int.pow_succ]
  omega
theorem b01_app {xs ys : List Int} (h : B01 xs) (g : B01 ys) : B01 (xs ++ ys) := fun b hb => by
  rcases List.mem_append.mp hb with z | z
  · exact h b z
  · exact g b z
def bitsL (v c : Int) : List Int := (List.range c.toNat).map fun (j : Nat) => PySem.Builtin.bitAnd (v / 2 ^ Int.toNat (c - 1 - (0 + (j : Int)))) 1
theorem bitsL_len (v c : Int) : (bitsL v c).length = c.toNat := by
  unfold bitsL
  rw [List.length_map, List.length_range]
theorem bitsL_01 (v c : Int) : B01 (bitsL v c) := by
  intro b hb
  unfold bitsL at hb
  obtain ⟨j, _, e⟩ := List.mem_map.mp hb
  rw [← e]
  show 0 ≤ PySem.Builtin.bitAnd _ 1 ∧ PySem.Builtin.bitAnd _ 1 ≤ 1
  rw [bit_mod]
  omega
theorem bitsL_succ (v : Int) (n : Nat) : bitsL v ((n + 1 : Nat) : Int) = bitsL (v / 2) (n : Int) ++ [v % 2] := by
  unfold bitsL
  rw [show (((n + 1 : Nat) : Int)).toNat = n + 1 from rfl, show ((n : Int)).toNat = n from rfl, List.range_succ, List.map_append]
  congr 1
  · apply List.map_congr_left
    intro j hj
    have hj := List.mem_range.mp hj
    rw [bit_mod, bit_mod, show Int.toNat (((n + 1 : Nat) : Int) - 1 - (0 + (j : Int))) = 1 + Int.toNat ((n : Int) - 1 - (0 + (j : Int))) from by omega, Int.pow_add, ← Int.ediv_ediv_of_nonneg (by decide)]
    rfl
  · show [PySem.Builtin.bitAnd (v / 2 ^ Int.toNat (((n + 1 : Nat) : Int) - 1 - (0 + (n : Int)))) 1] = [v % 2]
    rw [bit_mod, show Int.toNat (((n + 1 : Nat) : Int) - 1 - (0 + (n : Int))) = 0 from by omega]
    show [v / 1 % 2] = _
    rw [Int.ediv_one]
theorem nb_bitsL : ∀ (n : Nat) {v : Int}, 0 ≤ v ∧ v < 2 ^ n → nb (bitsL v (n : Int)) = v
  | 0, v, h => by
    have : v = 0 := by
      have := h.2
      rw [Int.pow_zero] at this
      omega
    rw [this]
    rfl
  | n + 1, v, h => by
    rw [bitsL_succ, nb_snoc, nb_bitsL n (v := v / 2) (by have := h.2; rw [Int.pow_succ] at this; omega)]
    omega
def ueL (v : Int) : List Int := repL [0] (((PySem.Builtin.Int.intBits (v + 1) : Nat) : Int) - 1) ++ bitsL (v + 1) ((PySem.Builtin.Int.intBits (v + 1) : Nat) : Int)
def padL (bs : List Int) : List Int := (bs ++ [1]) ++ repL [0] ((8 - ((bs ++ [1]).length : Int) % 8) % 8)
def packL (bs : List Int) : List Int := (List.range (((padL bs).length : Int) / 8).toNat).map fun (i : Nat) => List.sum ((List.range 8).map fun (j : Nat) => itD (padL bs) (8 * (0 + (i : Int)) + (0 + (j : Int))) * 2 ^ Int.toNat (7 - (0 + (j : Int))))
theorem rep_zeros (k : Int) : repL [(0 : Int)] k = List.replicate k.toNat 0 := by
  unfold repL
  induction k.toNat with
  | zero => rfl
  | succ n ih =>
    rw [List.replicate_succ, List.flatten_cons, ih]
    rfl
theorem nb_zeros : ∀ n : Nat, nb (List.replicate n 0) = 0
  | 0 => rfl
  | n + 1 => nb_zeros n
theorem zeros_01 (n : Nat) : B01 (List.replicate n 0) := fun b hb => by
  rw [List.eq_of_mem_replicate hb]
  decide
theorem padL_len (bs : List Int) : ∃ m : Nat, ((padL bs).length : Int) = 8 * (m : Int) ∧ (m : Int) = bs.length / 8 + 1 := by
  refine ⟨bs.length / 8 + 1, ?_, by omega⟩
  unfold padL
  rw [List.length_append, len_rep1, List.length_append]
  simp only [List.length_cons, List.length_nil]
  omega
theorem padL_mem {bs : List Int} (h : B01 bs) : B01 (padL bs) := by
  unfold padL
  refine b01_app (b01_app h (fun b hb => ?_)) ?_
  · rw [List.mem_singleton.mp hb]
    decide
  · rw [rep_zeros]
    exact zeros_01 _
theorem ue_form {v : Int} (h : 0 ≤ v) : ∃ k : Nat, PySem.Builtin.Int.intBits (v + 1) = k + 1 ∧ (2 : Int) ^ k ≤ v + 1 ∧ v + 1 < 2 ^ (k + 1) ∧ ueL v = List.replicate k 0 ++ bitsL (v + 1) ((k + 1 : Nat) : Int) ∧ (ueL v).length = 2 * k + 1 ∧ nb (ueL v) = v + 1 ∧ B01 (ueL v) := by
  obtain ⟨k, e, lo, hi⟩ := ib_spec (n := v + 1) (by omega)
  have e2 : ueL v = List.replicate k 0 ++ bitsL (v + 1) ((k + 1 : Nat) : Int) := by
    unfold ueL
    rw [e, rep_zeros, show (((k + 1 : Nat) : Int) - 1).toNat = k from by omega]
  refine ⟨k, e, lo, hi, e2, ?_, ?_, ?_⟩
  · rw [e2, List.length_append, List.length_replicate, bitsL_len]
    omega
  · rw [e2, nb_app, nb_zeros, Int.zero_mul, Int.zero_add]
    exact nb_bitsL (k + 1) ⟨by omega, hi⟩
  · rw [e2]
    exact b01_app (zeros_01 _) (bitsL_01 _ _)
structure WR (w : BwS) (bs : List Int) : Prop where
  g : BwG w
  oct : ∀ x ∈ w.full, 0 ≤ x ∧ x ≤ 255
  b : B01 bs
  len : (bs.length : Int) = 8 * (w.full.length : Int) + w.bits
  val : nb bs = num w.full * 2 ^ w.bits.toNat + w.rest
theorem num_digs : ∀ (k : Nat) {M : Int}, 0 ≤ M ∧ M < 256 ^ k → num (digs M k) = M
  | 0, M, h => by
    have : M = 0 := by
      have := h.2
      rw [Int.pow_zero] at this
      omega
    rw [this]
    rfl
  | k + 1, M, h => by
    have e : M = M / 256 * 256 + M % 256 := by omega
    have h2 := h.2
    rw [Int.pow_succ] at h2
    have d := digs_snoc (M / 256) (M % 256) k (by omega)
    rw [← e] at d
    rw [d, num_snoc, num_digs k (M := M / 256) (by omega)]
    omega
theorem digs_oct {M : Int} {k : Nat} : ∀ x ∈ digs M k, 0 ≤ x ∧ x ≤ 255 := by
  intro x hx
  unfold digs at hx
  obtain ⟨j, _, e⟩ := List.mem_map.mp hx
  rw [← e]
  show 0 ≤ _ % 256 ∧ _ % 256 ≤ 255
  omega
theorem wr_add {w : BwS} {bs X : List Int} {v c : Int} (h : WR w bs) (hc : 0 ≤ c) (hx : B01 X) (hl : (X.length : Int) = c) (hv : nb X = v) : WR (bwAdd w v c) (bs ++ X) := by
  have hv2 := nb_lt hx
  have hcn : c.toNat = X.length := by omega
  rw [hv, ← hcn] at hv2
  have t := total_in h.g hc hv2
  have hb := h.g.bits
  have hval := h.val
  obtain ⟨r, hr⟩ := Int.eq_ofNat_of_zero_le (show 0 ≤ (w.bits + c) % 8 by omega)
  obtain ⟨k, hk⟩ := Int.eq_ofNat_of_zero_le (show 0 ≤ (w.bits + c) / 8 by omega)
  have hsum : (w.bits + c).toNat = 8 * k + r := by omega
  have hr2 : ((w.bits + c) % 8).toNat = r := by omega
  have hk2 : ((w.bits + c) / 8).toNat = k := by omega
  have pr := pow_pos2 r
  rw [hsum, Int.pow_add, ← pow256] at t
  have hM : 0 ≤ (w.rest * 2 ^ c.toNat + v) / 2 ^ r ∧ (w.rest * 2 ^ c.toNat + v) / 2 ^ r < 256 ^ k :=
    ⟨Int.ediv_nonneg t.1 (Int.le_of_lt pr), Int.ediv_lt_of_lt_mul pr t.2⟩
  unfold bwAdd
  rw [hr2, hk2]
  refine ⟨⟨by show 0 ≤ (w.bits + c) % 8 ∧ (w.bits + c) % 8 ≤ 7; omega, ?_⟩, ?_, b01_app h.b hx, ?_, ?_⟩
  · show 0 ≤ (w.rest * 2 ^ c.toNat + v) % 2 ^ r ∧ (w.rest * 2 ^ c.toNat + v) % 2 ^ r < 2 ^ ((w.bits + c) % 8).toNat
    rw [hr2]
    exact ⟨Int.emod_nonneg _ (by omega), Int.emod_lt_of_pos _ pr⟩
  · intro x hx
    rcases List.mem_append.mp hx with z | z
    · exact h.oct x z
    · exact digs_oct x z
  · have hlen := h.len
    show ((bs ++ X).length : Int) = 8 * ((w.full ++ digs _ k).length : Int) + (w.bits + c) % 8
    rw [List.length_append, List.length_append, digs_len]
    omega
  · show nb (bs ++ X) = num (w.full ++ digs _ k) * 2 ^ ((w.bits + c) % 8).toNat + (w.rest * 2 ^ c.toNat + v) % 2 ^ r
    rw [hr2, nb_app, num_app, digs_len, num_digs k hM, hv, hval, ← hcn]
    have q := Int.mul_ediv_add_emod (w.rest * 2 ^ c.toNat + v) (2 ^ r)
    rw [Int.add_mul, Int.add_mul, Int.mul_assoc, Int.mul_assoc, ← Int.pow_add, show w.bits.toNat + c.toNat = 8 * k + r from by omega, Int.pow_add, ← pow256]
    rw [Int.mul_comm (2 ^ r)] at q
    omega
theorem wr_nil : WR ⟨[], 0, 0⟩ [] := ⟨⟨by decide, by decide⟩, fun x h => (List.not_mem_nil h).elim, fun x h => (List.not_mem_nil h).elim, rfl, rfl⟩
def ItOk (it : Int × Int × Int) : Prop := (it.1 = 0 ∧ (0 ≤ it.2.2 ∧ it.2.2 ≤ 64) ∧ 0 ≤ it.2.1 ∧ it.2.1 < 2 ^ it.2.2.toNat) ∨ (it.1 = 1 ∧ 0 ≤ it.2.1 ∧ it.2.1 ≤ 4294967296) ∨ (it.1 = 2 ∧ -2147483648 ≤ it.2.1 ∧ it.2.1 ≤ 2147483648)
def itBits (it : Int × Int × Int) : List Int := if it.1 = 0 then bitsL it.2.1 it.2.2 else if it.1 = 1 then ueL it.2.1 else ueL (seCode it.2.1)
def itAdd (w : BwS) (it : Int × Int × Int) : BwS := if it.1 = 0 then bwAdd w it.2.1 it.2.2 else if it.1 = 1 then bwUe w it.2.1 else bwUe w (seCode it.2.1)
theorem se_in {v : Int} (h : -2147483648 ≤ v ∧ v ≤ 2147483648) : 0 ≤ seCode v ∧ seCode v ≤ 4294967296 := by
  unfold seCode
  split <;> omega
theorem wr_ue {w : BwS} {bs : List Int} {v : Int} (h : WR w bs) (hv : 0 ≤ v) : WR (bwUe w v) (bs ++ ueL v) := by
  obtain ⟨k, e, lo, hi, e2, hl, hn, hb⟩ := ue_form hv
  unfold bwUe
  rw [e]
  exact wr_add h (by omega) hb (by rw [hl]; omega) hn
theorem wr_put {w : BwS} {bs : List Int} {it : Int × Int × Int} (h : WR w bs) (hi : ItOk it) : WR (itAdd w it) (bs ++ itBits it) := by
  unfold itAdd itBits
  rcases hi with ⟨a, b, c⟩ | ⟨a, b⟩ | ⟨a, b⟩
  · rw [if_pos a, if_pos a]
    obtain ⟨n, hn⟩ := Int.eq_ofNat_of_zero_le b.1
    rw [hn] at c ⊢
    exact wr_add h (by omega) (bitsL_01 _ _) (by rw [bitsL_len]; omega) (nb_bitsL n c)
  · rw [if_neg (by omega), if_pos a, if_neg (by omega), if_pos a]
    exact wr_ue h b.1
  · rw [if_neg (by omega), if_neg (by omega), if_neg (by omega), if_neg (by omega)]
    exact wr_ue h (se_in b).1
theorem it_01 {it : Int × Int × Int} (hi : ItOk it) : B01 (itBits it) := by
  unfold itBits
  rcases hi with ⟨a, b, c⟩ | ⟨a, b⟩ | ⟨a, b⟩
  · rw [if_pos a]
    exact bitsL_01 _ _
  · rw [if_neg (by omega), if_pos a]
    obtain ⟨k, e, lo, hi, e2, hl, hn, hb⟩ := ue_form b.1
    exact hb
  · rw [if_neg (by omega), if_neg (by omega)]
    obtain ⟨k, e, lo, hi, e2, hl, hn, hb⟩ := ue_form (se_in b).1
    exact hb
theorem ue_len {v : Int} (h : 0 ≤ v) (h1 : v ≤ 4294967296) : (ueL v).length ≤ 130 := by
  obtain ⟨k, e, lo, hi, e2, hl, hn, hb⟩ := ue_form h
  have u := (ue_in h h1).1
  rw [e] at u
  omega
theorem it_len {it : Int × Int × Int} (hi : ItOk it) : (itBits it).length ≤ 130 := by
  unfold itBits
  rcases hi with ⟨a, b, c⟩ | ⟨a, b⟩ | ⟨a, b⟩
  · rw [if_pos a, bitsL_len]
    omega
  · rw [if_neg (by omega), if_pos a]
    exact ue_len b.1 b.2
  · rw [if_neg (by omega), if_neg (by omega)]
    exact ue_len (se_in b).1 (se_in b).2
theorem eight0 {b : Int} (h : 0 ≤ b ∧ b ≤ 7) : b = 0 ∨ b = 1 ∨ b = 2 ∨ b = 3 ∨ b = 4 ∨ b = 5 ∨ b = 6 ∨ b = 7 := by omega
theorem wr_mem {w : BwS} {bs : List Int} (h : WR w bs) : ∀ x ∈ w.full ++ [(2 * w.rest + 1) * 2 ^ (7 - w.bits).toNat], 0 ≤ x ∧ x ≤ 255 := by
  intro x hx
  rcases List.mem_append.mp hx with z | z
  · exact h.oct x z
  · rw [List.mem_singleton.mp z]
    have hb := h.g.bits
    have hr := h.g.rest
    rcases eight0 hb with e | e | e | e | e | e | e | e <;>
      (rw [e] at hr ⊢; simp at hr ⊢; omega)
theorem wr_last {w : BwS} {bs : List Int} (h : WR w bs) : 0 < (2 * w.rest + 1) * 2 ^ (7 - w.bits).toNat ∧ lastBit ((2 * w.rest + 1) * 2 ^ (7 - w.bits).toNat) = 8 - w.bits := by
  have hb := h.g.bits
  have hr := h.g.rest
  refine ⟨?_, ?_⟩
  · rcases eight0 hb with e | e | e | e | e | e | e | e <;> (rw [e] at hr ⊢; simp at hr ⊢; try omega)
  · unfold lastBit
    rcases eight0 hb with e | e | e | e | e | e | e | e <;> (rw [e] at hr ⊢; simp at hr ⊢ <;> (repeat' split) <;> omega)
theorem wr_num {w : BwS} {bs : List Int} (h : WR w bs) : num (w.full ++ [(2 * w.rest + 1) * 2 ^ (7 - w.bits).toNat]) = (nb bs * 2 + 1) * 2 ^ (7 - w.bits).toNat := by
  have hb := h.g.bits
  rw [num_snoc, h.val]
  rcases eight0 hb with e | e | e | e | e | e | e | e <;>
    (rw [e]; simp; omega)
theorem pad_nb {w : BwS} {bs : List Int} (h : WR w bs) : nb (padL bs) = (nb bs * 2 + 1) * 2 ^ (7 - w.bits).toNat := by
  have hb := h.g.bits
  have hl := h.len
  unfold padL
  rw [nb_app, rep_zeros, nb_zeros, nb_snoc, List.length_replicate, List.length_append]
  simp only [List.length_cons, List.length_nil]
  rw [show ((8 - ((bs.length + (0 + 1) : Nat) : Int) % 8) % 8).toNat = (7 - w.bits).toNat from by omega]
  omega
theorem take8 {B : List Int} {m : Nat} (h : 8 * (m + 1) ≤ B.length) : ∃ a b c d e f g i : Int, B.take (8 * (m + 1)) = B.take (8 * m) ++ [a] ++ [b] ++ [c] ++ [d] ++ [e] ++ [f] ++ [g] ++ [i] ∧
    itD B (8 * (0 + (m : Int)) + 0) = a ∧ itD B (8 * (0 + (m : Int)) + 1) = b ∧ itD B (8 * (0 + (m : Int)) + 2) = c ∧ itD B (8 * (0 + (m : Int)) + 3) = d ∧
    itD B (8 * (0 + (m : Int)) + 4) = e ∧ itD B (8 * (0 + (m : Int)) + 5) = f ∧ itD B (8 * (0 + (m : Int)) + 6) = g ∧ itD B (8 * (0 + (m : Int)) + 7) = i := by
  have ix : ∀ k : Nat, (hk : 8 * m + k < B.length) → B[8 * m + k]? = some (B[8 * m + k]'hk) := fun k hk => List.getElem?_eq_getElem hk
  have it : ∀ k : Nat, (hk : 8 * m + k < B.length) → itD B (8 * (0 + (m : Int)) + (k : Int)) = B[8 * m + k]'hk := fun k hk => by
    rw [show 8 * (0 + (m : Int)) + (k : Int) = ((8 * m + k : Nat) : Int) from by omega]
    exact itD_nat (ix k hk)
  refine ⟨_, _, _, _, _, _, _, _, ?_, it 0 (by omega), it 1 (by omega), it 2 (by omega), it 3 (by omega), it 4 (by omega), it 5 (by omega), it 6 (by omega), it 7 (by omega)⟩
  rw [show 8 * (m + 1) = 8 * m + 7 + 1 from by omega, take_succ_get (ix 7 (by omega)), take_succ_get (ix 6 (by omega)), take_succ_get (ix 5 (by omega)), take_succ_get (ix 4 (by omega)), take_succ_get (ix 3 (by omega)), take_succ_get (ix 2 (by omega)), take_succ_get (ix 1 (by omega)), take_succ_get (ix 0 (by omega))]
  rfl
def octB (B : List Int) (m : Nat) : Int := List.sum ((List.range 8).map fun (j : Nat) => itD B (8 * (0 + (m : Int)) + (0 + (j : Int))) * 2 ^ Int.toNat (7 - (0 + (j : Int))))
theorem octB_eq (B : List Int) (m : Nat) : octB B m = itD B (8 * (0 + (m : Int)) + 0) * 128 + itD B (8 * (0 + (m : Int)) + 1) * 64 + itD B (8 * (0 + (m : Int)) + 2) * 32 + itD B (8 * (0 + (m : Int)) + 3) * 16 +
    itD B (8 * (0 + (m : Int)) + 4) * 8 + itD B (8 * (0 + (m : Int)) + 5) * 4 + itD B (8 * (0 + (m : Int)) + 6) * 2 + itD B (8 * (0 + (m : Int)) + 7) := by
  unfold octB
  rw [show List.range 8 = [0, 1, 2, 3, 4, 5, 6, 7] from rfl]
  simp only [List.map_cons, List.map_nil, List.sum_cons, List.sum_nil]
  show itD B (8 * (0 + (m : Int)) + 0) * 128 + (itD B (8 * (0 + (m : Int)) + 1) * 64 + (itD B (8 * (0 + (m : Int)) + 2) * 32 + (itD B (8 * (0 + (m : Int)) + 3) * 16 + (itD B (8 * (0 + (m : Int)) + 4) * 8 + (itD B (8 * (0 + (m : Int)) + 5) * 4 + (itD B (8 * (0 + (m : Int)) + 6) * 2 + (itD B (8 * (0 + (m : Int)) + 7) * 1 + 0))))))) = _
  omega
theorem oct_turn8 {B : List Int} (hB : B01 B) {m : Nat} (h : 8 * (m + 1) ≤ B.length) : nb (B.take (8 * (m + 1))) = nb (B.take (8 * m)) * 256 + octB B m ∧ 0 ≤ octB B m ∧ octB B m ≤ 255 := by
  obtain ⟨a, b, c, d, e, f, g, i, ht, ea, eb, ec, ed, ee, ef, eg, ei⟩ := take8 h
  have hb : ∀ x ∈ [a, b, c, d, e, f, g, i], 0 ≤ x ∧ x ≤ 1 := fun x hx => by
    apply hB x
    apply List.mem_of_mem_take (i := 8 * (m + 1))
    rw [ht]
    simp only [List.mem_cons, List.not_mem_nil, or_false] at hx
    simp only [List.mem_append, List.mem_singleton]
    rcases hx with z | z | z | z | z | z | z | z <;> simp [z]
  simp only [List.mem_cons, List.not_mem_nil, or_false, forall_eq_or_imp, forall_eq] at hb
  rw [octB_eq, ea, eb, ec, ed, ee, ef, eg, ei, ht]
  simp only [nb_snoc]
  omega
theorem num_pack {B : List Int} (hB : B01 B) : ∀ m : Nat, 8 * m ≤ B.length → num ((List.range m).map (octB B)) = nb (B.take (8 * m)) ∧ ∀ x ∈ (List.range m).map (octB B), 0 ≤ x ∧ x ≤ 255
  | 0, _ => ⟨rfl, fun x hx => (List.not_mem_nil hx).elim⟩
  | m + 1, h => by
    have ih := num_pack hB m (by omega)
    have t := oct_turn8 hB h
    rw [List.range_succ, List.map_append]
    refine ⟨?_, fun x hx => ?_⟩
    · show num (_ ++ [octB B m]) = _
      rw [num_snoc, ih.1, t.1]
    · rcases List.mem_append.mp hx with z | z
      · exact ih.2 x z
      · rw [show x = octB B m from by simpa using z]
        exact t.2
theorem wr_octets {w : BwS} {bs : List Int} (h : WR w bs) : w.full ++ [(2 * w.rest + 1) * 2 ^ (7 - w.bits).toNat] = packL bs := by
  obtain ⟨m, h1, h2⟩ := padL_len bs
  have hm : (((padL bs).length : Int) / 8).toNat = m := by omega
  have hB := padL_mem h.b
  have p := num_pack hB m (by omega)
  have hpk : packL bs = (List.range m).map (octB (padL bs)) := by
    unfold packL
    rw [hm]
    rfl
  have hl : (packL bs).length = m := by rw [hpk, List.length_map, List.length_range]
  have hl2 : (w.full ++ [(2 * w.rest + 1) * 2 ^ (7 - w.bits).toNat]).length = m := by
    have := h.len
    have := h.g.bits
    rw [List.length_append]
    simp only [List.length_cons, List.length_nil]
    omega
  have a := digs_num (wr_mem h)
  have b := digs_num p.2
  rw [← hpk] at b
  rw [hl] at b
  rw [hl2] at a
  rw [← a, ← b, hpk, p.1, List.take_of_length_le (by omega), pad_nb h, wr_num h]
structure RR (s : BrS) (bs : List Int) : Prop where
  g : BrG s
  b : B01 bs
  len : s.place + (bs.length : Int) = s.stop
  val : num s.octs / 2 ^ (8 * (s.octs.length : Int) - s.stop).toNat % 2 ^ bs.length = nb bs
theorem rr_look {s : BrS} {Z X Y : List Int} (h : RR s (Z ++ X ++ Y)) : lookB s.octs (s.place + (Z.length : Int)) (X.length : Int) = nb X := by
  have hl := h.len
  have hs := h.g.stop
  have hv := h.val
  have hX := nb_lt (bs := X) fun b hb => h.b b (by simp [hb])
  have hY := nb_lt (bs := Y) fun b hb => h.b b (by simp [hb])
  rw [List.length_append, List.length_append] at hl hv
  unfold lookB
  rw [show (8 * (s.octs.length : Int) - (s.place + (Z.length : Int)) - (X.length : Int)).toNat = (8 * (s.octs.length : Int) - s.stop).toNat + Y.length from by omega, Int.pow_add, ← Int.ediv_ediv_of_nonneg (Int.le_of_lt (pow_pos2 _))]
  generalize num s.octs / 2 ^ (8 * (s.octs.length : Int) - s.stop).toNat = q at *
  show q / 2 ^ Y.length % 2 ^ X.length = nb X
  have pY := pow_pos2 Y.length
  have pX := pow_pos2 X.length
  have e : q = 2 ^ (Z.length + X.length + Y.length) * (q / 2 ^ (Z.length + X.length + Y.length)) + nb (Z ++ X ++ Y) := by
    rw [← hv]
    exact (Int.mul_ediv_add_emod _ _).symm
  generalize q / 2 ^ (Z.length + X.length + Y.length) = t at e
  rw [e, nb_app, nb_app, Int.pow_add, Int.pow_add]
  rw [show 2 ^ Z.length * 2 ^ X.length * 2 ^ Y.length * t + ((nb Z * 2 ^ X.length + nb X) * 2 ^ Y.length + nb Y) = nb Y + (nb X + (2 ^ Z.length * t + nb Z) * 2 ^ X.length) * 2 ^ Y.length from by
    simp only [Int.add_mul]
    rw [show 2 ^ Z.length * 2 ^ X.length * 2 ^ Y.length * t = 2 ^ Z.length * t * 2 ^ X.length * 2 ^ Y.length from by ac_rfl]
    omega]
  rw [Int.add_mul_ediv_right _ _ (by omega), Int.ediv_eq_zero_of_lt hY.1 hY.2, Int.zero_add, Int.add_mul_emod_self_right, Int.emod_eq_of_lt hX.1 hX.2]
theorem rr_move {s : BrS} {X Y : List Int} (h : RR s (X ++ Y)) : RR (brMove s (X.length : Int)) Y := by
  have hl := h.len
  have hv := h.val
  rw [List.length_append] at hl hv
  have hY := nb_lt (bs := Y) fun b hb => h.b b (by simp [hb])
  have g := h.g
  refine ⟨⟨g.oct, by show 0 ≤ s.place + (X.length : Int); have := g.place; omega, g.stop⟩, fun b hb => h.b b (by simp [hb]), by show s.place + (X.length : Int) + (Y.length : Int) = s.stop; omega, ?_⟩
  show num s.octs / 2 ^ (8 * (s.octs.length : Int) - s.stop).toNat % 2 ^ Y.length = nb Y
  generalize num s.octs / 2 ^ (8 * (s.octs.length : Int) - s.stop).toNat = q at *
  have hq := mod_mod_mul q (2 ^ Y.length) (2 ^ X.length)
  rw [Int.mul_comm, ← Int.pow_add, hv, nb_app, Int.add_comm, Int.add_mul_emod_self_right, Int.emod_eq_of_lt hY.1 hY.2] at hq
  exact hq.symm
theorem rr_init {w : BwS} {bs : List Int} (h : WR w bs) : RR (brInit (w.full ++ [(2 * w.rest + 1) * 2 ^ (7 - w.bits).toNat])) bs := by
  have hb := h.g.bits
  have hl := h.len
  have lb := wr_last h
  have hn := nb_lt h.b
  have hlen : ((w.full ++ [(2 * w.rest + 1) * 2 ^ (7 - w.bits).toNat]).length : Int) = w.full.length + 1 := by
    rw [List.length_append]
    rfl
  have hst : (brInit (w.full ++ [(2 * w.rest + 1) * 2 ^ (7 - w.bits).toNat])).stop = bs.length := by
    show 8 * ((w.full ++ [(2 * w.rest + 1) * 2 ^ (7 - w.bits).toNat]).length : Int) - lastBit (itD (w.full ++ [(2 * w.rest + 1) * 2 ^ (7 - w.bits).toNat]) (-1)) = _
    rw [itD_end, lb.2, hlen]
    omega
  refine ⟨⟨wr_mem h, Int.le_refl 0, by rw [hst]; show _ ≤ 8 * ((w.full ++ [(2 * w.rest + 1) * 2 ^ (7 - w.bits).toNat]).length : Int); omega⟩, h.b, by rw [hst]; show (0 : Int) + _ = _; omega, ?_⟩
  rw [hst]
  show num (w.full ++ [(2 * w.rest + 1) * 2 ^ (7 - w.bits).toNat]) / 2 ^ (8 * ((w.full ++ [(2 * w.rest + 1) * 2 ^ (7 - w.bits).toNat]).length : Int) - (bs.length : Int)).toNat % 2 ^ bs.length = nb bs
  rw [wr_num h, hlen, show (8 * ((w.full.length : Int) + 1) - (bs.length : Int)).toNat = (7 - w.bits).toNat + 1 from by omega, Int.pow_add, ← Int.ediv_ediv_of_nonneg (Int.le_of_lt (pow_pos2 _)), Int.mul_ediv_cancel _ (by have := pow_pos2 (7 - w.bits).toNat; omega)]
  rw [show (nb bs * 2 + 1) / 2 ^ 1 = nb bs from by omega, Int.emod_eq_of_lt hn.1 hn.2]
theorem rr_zeros {s : BrS} {v : Int} {Y : List Int} (hv : 0 ≤ v) (hv1 : v ≤ 4294967296) (h : RR s (ueL v ++ Y)) :
    ∃ z : Nat, Zeros s z ∧ s.place + (2 * (z : Int) + 1) ≤ s.stop ∧ lookB s.octs s.place (2 * (z : Int) + 1) - 1 = v ∧ 2 * (z : Int) + 1 = ((ueL v).length : Int) := by
  obtain ⟨k, e, lo, hi, e2, hl, hn, hb⟩ := ue_form hv
  have hk : k < 33 := pow_lt_of (Int.lt_of_le_of_lt lo (by show v + 1 < 8589934592; omega))
  have hlen := h.len
  rw [List.length_append, hl] at hlen
  refine ⟨k, ⟨by omega, by omega, fun j hj => ?_, ?_⟩, by omega, ?_, by omega⟩
  · have h2 : RR s (List.replicate j 0 ++ [0] ++ (List.replicate (k - j - 1) 0 ++ bitsL (v + 1) ((k + 1 : Nat) : Int) ++ Y)) := by
      have e3 : List.replicate k (0 : Int) = List.replicate j 0 ++ ([0] ++ List.replicate (k - j - 1) 0) := by
        rw [show [(0 : Int)] = List.replicate 1 0 from rfl, List.replicate_append_replicate, List.replicate_append_replicate]
        congr 1
        omega
      rw [e2, e3] at h
      simpa using h
    have r := rr_look h2
    rw [List.length_replicate] at r
    exact r
  · have e4 : ∃ T : List Int, bitsL (v + 1) ((k + 1 : Nat) : Int) = [1] ++ T := by
      refine ⟨(bitsL (v + 1) ((k + 1 : Nat) : Int)).drop 1, ?_⟩
      unfold bitsL
      rw [show (((k + 1 : Nat) : Int)).toNat = k + 1 from rfl, List.range_succ_eq_map, List.map_cons, List.drop_one, List.tail_cons, List.singleton_append]
      congr 1
      rw [bit_mod, show Int.toNat (((k + 1 : Nat) : Int) - 1 - (0 + ((0 : Nat) : Int))) = k from by omega]
      have p := pow_pos2 k
      rw [Int.pow_succ] at hi
      have q1 : (v + 1) / 2 ^ k = 1 := by
        apply Int.le_antisymm
        · have : (v + 1) / 2 ^ k < 2 := Int.ediv_lt_of_lt_mul p (by omega)
          omega
        · exact Int.le_ediv_of_mul_le p (by omega)
      rw [q1]
      rfl
    obtain ⟨T, e5⟩ := e4
    have h2 : RR s (List.replicate k 0 ++ [1] ++ (T ++ Y)) := by
      rw [e2, e5] at h
      simpa using h
    have r := rr_look h2
    rw [List.length_replicate] at r
    exact r
  · have h2 : RR s ([] ++ ueL v ++ Y) := by
      rw [List.nil_append]
      exact h
    have r := rr_look h2
    rw [hl, hn] at r
    rw [show s.place + (([] : List Int).length : Int) = s.place from Int.add_zero _] at r
    rw [show (2 * (k : Int) + 1) = ((2 * k + 1 : Nat) : Int) from by omega, r]
    omega
theorem se_back (v : Int) : seBack (seCode v) = v := by
  unfold seBack seCode
  rw [bit_mod]
  by_cases h : 0 < v
  · rw [if_pos h, if_pos (by rw [show (2 * v - 1) % 2 = 1 from by omega]; rfl)]
    omega
  · rw [if_neg h, if_neg (by rw [show -2 * v % 2 = 0 from by omega]; decide)]
    omega
structure GetOk (s : BrS) (it : Int × Int × Int) : Prop where
  g : BrG s
  get0 : it.1 = 0 → (0 ≤ it.2.2 ∧ it.2.2 ≤ 64) ∧ s.place + it.2.2 ≤ s.stop ∧ lookB s.octs s.place it.2.2 = it.2.1 ∧ it.2.2 = ((itBits it).length : Int)
  get1 : it.1 = 1 → ∃ z : Nat, Zeros s z ∧ s.place + (2 * (z : Int) + 1) ≤ s.stop ∧ lookB s.octs s.place (2 * (z : Int) + 1) - 1 = it.2.1 ∧ 2 * (z : Int) + 1 = ((itBits it).length : Int)
  get2 : ¬ it.1 = 0 → ¬ it.1 = 1 → ∃ z : Nat, Zeros s z ∧ s.place + (2 * (z : Int) + 1) ≤ s.stop ∧ seBack (lookB s.octs s.place (2 * (z : Int) + 1) - 1) = it.2.1 ∧ 2 * (z : Int) + 1 = ((itBits it).length : Int)
theorem rr_get {s : BrS} {it : Int × Int × Int} {Y : List Int} (hi : ItOk it) (h : RR s (itBits it ++ Y)) : GetOk s it := by
  refine ⟨h.g, fun a => ?_, fun a => ?_, fun a b => ?_⟩
  · have e : itBits it = bitsL it.2.1 it.2.2 := if_pos a
    rw [e] at h ⊢
    rcases hi with ⟨_, b, c⟩ | ⟨z, _⟩ | ⟨z, _⟩
    · obtain ⟨n, hn⟩ := Int.eq_ofNat_of_zero_le b.1
      have hl := h.len
      rw [List.length_append, bitsL_len] at hl
      rw [bitsL_len]
      refine ⟨b, by omega, ?_, by omega⟩
      have h2 : RR s ([] ++ bitsL it.2.1 it.2.2 ++ Y) := by
        rw [List.nil_append]
        exact h
      have r := rr_look h2
      rw [bitsL_len, show ((it.2.2.toNat : Nat) : Int) = it.2.2 from by omega, show s.place + (([] : List Int).length : Int) = s.place from Int.add_zero _] at r
      rw [r]
      rw [hn] at c ⊢
      exact nb_bitsL n c
    · omega
    · omega
  · have e : itBits it = ueL it.2.1 := by
      unfold itBits
      rw [if_neg (by omega), if_pos a]
    rw [e] at h ⊢
    rcases hi with ⟨z, _⟩ | ⟨_, b⟩ | ⟨z, _⟩
    · omega
    · exact rr_zeros b.1 b.2 h
    · omega
  · have e : itBits it = ueL (seCode it.2.1) := by
      unfold itBits
      rw [if_neg a, if_neg b]
    rw [e] at h ⊢
    rcases hi with ⟨z, _⟩ | ⟨z, _⟩ | ⟨_, c⟩
    · omega
    · omega
    · obtain ⟨z, z1, z2, z3, z4⟩ := rr_zeros (se_in c).1 (se_in c).2 h
      exact ⟨z, z1, z2, by rw [z3]; exact se_back _, z4⟩
end Pb
namespace Pb
theorem big_in {x : Int} (h0 : -1000000 ≤ x) (h1 : x ≤ 1000000) : -(2 ^ 4096) < x ∧ x < 2 ^ 4096 := by
  have k : (2 : Int) ^ 20 ≤ 2 ^ 4096 := pow_mono (by omega)
  have k2 : (2 : Int) ^ 20 = 1048576 := rfl
  generalize (2 : Int) ^ 4096 = b at *
  omega
theorem add_eq {w : BwS} {v c : Int} (h : BwG w) (hc : 0 ≤ c ∧ c ≤ 130) (hv : 0 ≤ v ∧ v < 2 ^ c.toNat) (hf : w.full.length ≤ 900000) : F_BitWriter__add w v c = .ok (bwAdd w v c) := by
  have hb := h.bits
  have hr := small_rest h
  unfold F_BitWriter__add
  have hi := big_in (x := w.rest) (by omega) (by omega)
  refine Gv.get (Gv.grd ⟨hc.1, by omega, hi.1, hi.2⟩ (Gv.bnd fun rest e1 => Gv.bnd fun left e2 => Gv.bind (Gv.whileR (P := fun s : St_BitWriter × Int × Int => s.1.rest = w.rest ∧ s.1.bits = w.bits ∧ AddR (w.rest * 2 ^ c.toNat + v) (w.bits + c) w.full s.1.full s.2.1 s.2.2) (R := fun s => (⟨s.1.full, s.2.1, s.2.2⟩ : BwS) = bwAdd w v c) (fun s => s.2.2.toNat) (fun s p => ?_) ?_ ?_) fun l hl => ?_))
  · obtain ⟨p1, p2, p⟩ := p
    have hl := p.len
    have hle := p.le
    have hi1 := big_in (x := 1) (by omega) (by omega)
    unfold F_BitWriter__add_b1
    refine Gv.ite (fun h8 => ?_) (fun h8 => .ok (Or.inr ⟨(s.1, s.2.1, s.2.2), rfl, add_end p (Int.not_le.mp h8)⟩))
    refine Gv.bnd fun l hl2 => ?_
    subst hl2
    refine Gv.grd (by omega) (Gv.grd (by omega) (Gv.bnd fun y hy => Gv.grd ⟨by omega, by omega, hi1.1, hi1.2⟩ (Gv.bnd fun r hr => .ok (Or.inl ⟨_, rfl, ⟨p1, p2, ?_⟩, ?_⟩))))
    · subst hy hr
      exact add_turn p h8
    · show (s.2.2 - 8).toNat < s.2.2.toNat
      omega
  · subst e1 e2
    exact ⟨rfl, rfl, add_start h hc.1 hv⟩
  · show left.toNat < 1000000
    subst e2
    omega
  · obtain ⟨s, rfl, hs⟩ := hl
    rw [aft_go]
    exact .ok hs
theorem put_ue_eq {w : BwS} {v : Int} (h : BwG w) (hv : 0 ≤ v ∧ v ≤ 4294967296) (hf : w.full.length ≤ 900000) : F_BitWriter_put_ue w v = .ok (bwUe w v) := by
  have u := ue_in hv.1 hv.2
  unfold F_BitWriter_put_ue
  rw [if_pos hv.1, if_pos hv.2, bnd_eq, add_eq h u.1 u.2 hf]
  rfl
theorem octets_eq {w : BwS} (h : BwG w) (hf : w.full.length ≤ 900000) : F_BitWriter_octets w = .ok (w.full ++ [(2 * w.rest + 1) * 2 ^ (7 - w.bits).toNat]) := by
  have hb := h.bits
  have hr := small_rest h
  have hi := big_in (x := 2 * w.rest + 1) (by omega) (by omega)
  unfold F_BitWriter_octets
  rw [bnd_eq, grd_pos ⟨by omega, by omega, hi.1, hi.2⟩, grd_pos (by simp; omega)]
theorem wr_ue_gv {w : BwS} {bs : List Int} {v : Int} (h : WR w bs) (hv : 0 ≤ v ∧ v ≤ 4294967296) (hl : bs.length ≤ 900000) : Gv (F_BitWriter_put_ue w v) (fun w' => WR w' (bs ++ ueL v)) := by
  have hlen := h.len
  have hb := h.g.bits
  exact .of_eq (put_ue_eq h.g hv (by omega)) (wr_ue h hv.1)
theorem wr_octets_eq {w : BwS} {bs : List Int} (h : WR w bs) (hl : bs.length ≤ 900000) : F_BitWriter_octets w = .ok (packL bs) := by
  have hlen := h.len
  have hb := h.g.bits
  rw [octets_eq h.g (by omega), wr_octets h]
theorem last_eq {o : Int} (h : 0 < o ∧ o ≤ 255) : F__last_bit o = .ok (lastBit o) := by
  unfold F__last_bit
  refine Gv.get (Gv.bind (Gv.whileR (P := fun b : Int => (1 ≤ b ∧ b ≤ 8) ∧ o % 2 ^ (b - 1).toNat = 0) (R := fun b => lastBit o = b) (fun b => (9 - b).toNat) (fun b p => ?_) ⟨by decide, by show o % 1 = 0; omega⟩ (by decide)) fun l hl => ?_)
  · unfold F__last_bit_b1
    refine Gv.grd (by omega) (Gv.ite (fun hc => Gv.bnd fun b2 hb2 => .ok (Or.inl ⟨_, rfl, ?_, ?_⟩)) fun hc => .ok (Or.inr ⟨_, rfl, lb_end h p.1.1 p.1.2 p.2 hc⟩))
    · subst hb2
      have t := lb_turn h p.1.1 p.1.2 p.2 hc
      exact ⟨⟨t.1, t.2.1⟩, t.2.2⟩
    · omega
  · obtain ⟨s, rfl, hs⟩ := hl
    exact .ok hs.symm
theorem init_eq {o : List Int} (h : o ≠ []) (hz : ¬ itD o (-1) = 0) (ho : ∀ x ∈ o, 0 ≤ x ∧ x ≤ 255) : F_BitReader___init__ o = .ok (brInit o) := by
  have hin := last_in h
  unfold F_BitReader___init__
  rw [if_neg h, grd_pos hin, if_neg hz, grd_pos hin, last_eq (last_oct h hz ho)]
  rfl
theorem look_ok {s : BrS} {p c : Int} (h : BrG s) (hp : 0 ≤ p) (hc : 0 ≤ c ∧ c ≤ 65) (hs : p + c ≤ s.stop) : F_BitReader__look s p c = .ok (lookB s.octs p c) := by
  unfold F_BitReader__look
  have hi1 := big_in (x := 1) (by omega) (by omega)
  refine Gv.get (Gv.bnd fun e he => ?_)
  subst he
  refine Gv.neg (by omega) (Gv.bind (Gv.forS (P := fun i v => v = num ((sliceB s.octs p c).take i)) rfl fun i x v hx pv => ?_) fun v hv => ?_)
  · have sm := slice_small h hp hc hs i
    have hb : -(2 ^ 4096) < v ∧ v < 2 ^ 4096 := by
      rw [pv]
      refine ⟨?_, sm.2⟩
      have k : (0 : Int) < 2 ^ 4096 := pow_pos2 4096
      have := sm.1
      generalize (2 : Int) ^ 4096 = b at *
      omega
    have ox := slice_oct h.oct hx
    have e : PySem.Builtin.bitOr (v * 2 ^ Int.toNat 8) x = v * 256 + x := or_lowN (n := 8) (by rw [pv]; exact sm.1) ox.1 (by omega)
    unfold F_BitReader__look_b1
    refine Gv.grd ⟨by decide, by decide, hb.1, hb.2⟩ (Gv.bnd fun y hy => .ok ?_)
    rw [hy, e, pv]
    exact num_take (xs := sliceB s.octs p c) hx
  · unfold F_BitReader__look_r1
    refine Gv.grd (and7_nn _) (Gv.grd ⟨hc.1, by omega, hi1.1, hi1.2⟩ (.ok ?_))
    rw [hv, look_eq h hp hc hs]
    unfold sliceB
    rw [List.take_length]
theorem take_ok {s : BrS} {c : Int} (h : BrG s) (hc : 0 ≤ c ∧ c ≤ 65) (hs : s.place + c ≤ s.stop) : F_BitReader__take s c = .ok (lookB s.octs s.place c, brMove s c) := by
  unfold F_BitReader__take
  rw [look_ok h h.place hc hs]
  rfl
theorem zeros_ok {s : BrS} {z : Nat} (h : BrG s) (hz : Zeros s z) : F_BitReader__zeros s = .ok (z : Int) := by
  have hm := hz.most
  have hf := hz.fit
  have hp := h.place
  unfold F_BitReader__zeros
  refine Gv.get (Gv.bind (Gv.whileR (P := fun q : Int => 0 ≤ q ∧ q ≤ (z : Int)) (R := fun q => q = (z : Int)) (fun q => (33 - q).toNat) (fun q p => ?_) ⟨by omega, by omega⟩ (by decide)) fun l hl => ?_)
  · unfold F_BitReader__zeros_b1
    refine Gv.bind_eq (look_ok h (by omega) ⟨by decide, by decide⟩ (by omega)) (Gv.ite (fun hc => ?_) fun hc => .ok (Or.inr ⟨_, rfl, zeros_eq hz p.1 p.2 hc⟩))
    have ne := zeros_ne hz p.1 p.2 hc
    refine Gv.bnd fun q2 hq => ?_
    subst hq
    exact Gv.neg (by omega) (.ok (Or.inl ⟨_, rfl, ⟨by omega, by omega⟩, by omega⟩))
  · obtain ⟨s, rfl, hs⟩ := hl
    exact .ok hs
theorem rr_ue_ok {s : BrS} {v : Int} {Y : List Int} (hv : 0 ≤ v ∧ v ≤ 4294967296) (h : RR s (ueL v ++ Y)) : ∃ s', F_BitReader_get_ue s = .ok (v, s') ∧ RR s' Y := by
  obtain ⟨z, hz, hs, e, hl⟩ := rr_zeros hv.1 hv.2 h
  have hm := hz.most
  have m := rr_move h
  rw [← hl] at m
  refine ⟨_, ?_, m⟩
  unfold F_BitReader_get_ue
  rw [zeros_ok h.g hz, bind_ok, take_ok h.g ⟨by omega, by omega⟩ hs, bind_ok]
  show Rx.ok (lookB s.octs s.place (2 * (z : Int) + 1) - 1, _) = _
  rw [e]
theorem rng_map {β : Type} (n : Nat) (g : Int → β) : (rng 0 n).map g = (List.range n).map fun (j : Nat) => g (0 + (j : Int)) := by
  unfold rng
  rw [List.map_map]
  rfl
theorem lbits_eq {v c : Int} (hc : 0 ≤ c ∧ c ≤ 1000) : F__law_bits v c = .ok (bitsL v c) := by
  unfold F__law_bits
  rw [grd_pos ⟨by omega, by omega⟩, mapA_pure0 (g := fun j => PySem.Builtin.bitAnd (v / 2 ^ Int.toNat (c - 1 - j)) 1) (fun j hj => ?_) (by rw [rng_len]; omega), bind_ok]
  · congr 1
    unfold bitsL
    exact rng_map _ _
  · have hj := rng_mem hj
    unfold F__law_bits_c1
    rw [grd_pos (by omega)]
    rfl
theorem lue_eq {v : Int} (hv : 0 ≤ v ∧ v ≤ 4294967296) : F__law_ue v = .ok (ueL v) := by
  have u := ue_in hv.1 hv.2
  have hl : (repL [(0 : Int)] (((PySem.Builtin.Int.intBits (v + 1) : Nat) : Int) - 1)).length ≤ 130 := by
    rw [len_rep1]
    omega
  have hb := bitsL_len (v + 1) ((PySem.Builtin.Int.intBits (v + 1) : Nat) : Int)
  unfold F__law_ue
  rw [bnd_eq, grd_pos ⟨by omega, by omega, by simp; omega⟩, lbits_eq ⟨by omega, by omega⟩, bind_ok, grd_pos (by rw [hb]; omega)]
  rfl
theorem lpacked_eq {bs : List Int} (h : B01 bs) (hl : bs.length ≤ 900000) : F__law_packed bs = .ok (packL bs) := by
  obtain ⟨m, h1, h2⟩ := padL_len bs
  have hB := padL_mem h
  have hr : (repL [(0 : Int)] ((8 - ((bs ++ [1]).length : Int) % 8) % 8)).length ≤ 8 := by
    rw [len_rep1]
    omega
  have ha : (bs ++ [(1 : Int)]).length = bs.length + 1 := by simp
  unfold F__law_packed
  rw [grd_pos (by simp; omega), grd_pos ⟨by omega, by omega, by simp; omega⟩, grd_pos (by omega)]
  show grd (-(2 ^ 62) ≤ ((padL bs).length : Int) / 8 ∧ ((padL bs).length : Int) / 8 < 2 ^ 62) ((mapA (rng 0 (Int.toNat (((padL bs).length : Int) / 8))) [] fun x => noEr (F__law_packed_c1 (padL bs) x)).bind fun v => .ok v) = _
  rw [grd_pos ⟨by omega, by omega⟩, mapA_pure0 (g := fun i => List.sum ((List.range 8).map fun (j : Nat) => itD (padL bs) (8 * i + (0 + (j : Int))) * 2 ^ Int.toNat (7 - (0 + (j : Int))))) (fun i hi => ?_) (by rw [rng_len]; omega), bind_ok]
  · congr 1
    unfold packL
    exact rng_map _ _
  · have hi := rng_mem hi
    unfold F__law_packed_c1
    rw [mapA_pure0 (g := fun j => itD (padL bs) (8 * i + j) * 2 ^ Int.toNat (7 - j)) (fun j hj => ?_) (by rw [rng_len]; decide), bind_ok]
    · show Rx.ok (List.sum ((rng 0 8).map _)) = _
      rw [rng_map]
    · have hj := rng_mem hj
      have hj : 0 ≤ j ∧ j < 8 := ⟨hj.1, by have := hj.2; simp at this; omega⟩
      have hin : -((padL bs).length : Int) ≤ 8 * i + j ∧ 8 * i + j < ((padL bs).length : Int) := by omega
      have b := hB _ (itD_mem hin)
      have bi := big_in (x := itD (padL bs) (8 * i + j)) (by omega) (by omega)
      unfold F__law_packed_c2
      rw [grd_pos hin, grd_pos ⟨by omega, by omega, bi.1, bi.2⟩]
      rfl
structure WL (w : BwS) (bs : List Int) (n : Nat) : Prop where
  r : WR w bs
  l : bs.length ≤ n
theorem WL.nil : WL ⟨[], 0, 0⟩ [] 0 := ⟨wr_nil, Nat.le_refl 0⟩
theorem WL.ue {w : BwS} {bs : List Int} {n : Nat} {v : Int} (h : WL w bs n) (hn : n ≤ 900000) (hv : 0 ≤ v ∧ v ≤ 4294967296) : Gv (F_BitWriter_put_ue w v) (fun w' => WL w' (bs ++ ueL v) (n + 130)) := by
  have hl := h.l
  have hu := ue_len hv.1 hv.2
  refine (wr_ue_gv h.r hv (by omega)).imp fun w' h' => ⟨h', ?_⟩
  rw [List.length_append]
  omega
theorem WL.oct {w : BwS} {bs : List Int} {n : Nat} (h : WL w bs n) (hn : n ≤ 900000) : F_BitWriter_octets w = .ok (packL bs) := wr_octets_eq h.r (Nat.le_trans h.l hn)
theorem WL.ues {f : BwS → Int → Rx BwS} : ∀ {xs : List Int} {w : BwS} {bs : List Int} {n : Nat}, WL w bs n → (∀ v ∈ xs, ∀ w bs n, WL w bs n → n ≤ 900000 → Gv (f w v) (fun w' => WL w' (bs ++ ueL v) (n + 130))) → n + 130 * xs.length ≤ 900000 → Gv (forS xs w f) (fun w' => WL w' (bs ++ (xs.map ueL).flatten) (n + 130 * xs.length))
  | [], w, bs, n, h, _, _ => .ok (by simpa using h)
  | x :: r, w, bs, n, h, hf, hn => by
    have hn' : n + 130 * (r.length + 1) ≤ 900000 := hn
    show Gv ((f w x).bind fun s => forS r s f) _
    refine Gv.bind (hf x (by simp) w bs n h (by omega)) fun w1 h1 => ?_
    refine (WL.ues h1 (fun v hv => hf v (by simp [hv])) (by omega)).imp fun w2 h2 => ?_
    have e : n + 130 + 130 * r.length = n + 130 * (x :: r).length := by simp; omega
    rw [← e]
    simpa [List.append_assoc] using h2
theorem bits_one {a : Int} (h : 0 ≤ a ∧ a ≤ 1) : bitsL a 1 = [a] := by
  rcases (by omega : a = 0 ∨ a = 1) with rfl | rfl <;> rfl
theorem wr_of {bs : List Int} (h : B01 bs) : ∃ w, WR w bs := by
  have := wr_add (X := bs) (v := nb bs) (c := (bs.length : Int)) wr_nil (by omega) h rfl rfl
  exact ⟨_, this⟩
theorem init_pack {bs : List Int} (h : B01 bs) : ∃ s, F_BitReader___init__ (packL bs) = .ok s ∧ RR s bs := by
  obtain ⟨w, hw⟩ := wr_of h
  have e := wr_octets hw
  have l := wr_last hw
  have m := wr_mem hw
  refine ⟨_, init_eq ?_ ?_ ?_, ?_⟩
  · rw [← e]
    simp
  · rw [← e, itD_end]
    omega
  · rw [← e]
    exact m
  · rw [← e]
    exact rr_init hw
theorem rr_end {s : BrS} (h : RR s []) : s.stop - s.place = 0 := by
  have := h.len
  simp at this
  omega
end Pb
open Pb in
section
theorem WL_se {w : BwS} {bs : List Int} {n : Nat} {v : Int} (h : WL w bs n) (hn : n ≤ 900000) (hv : -2147483648 ≤ v ∧ v ≤ 2147483648) : Gv (F_BitWriter_put_se w v) (fun w' => WL w' (bs ++ ueL (seCode v)) (n + 130)) := by
  unfold F_BitWriter_put_se
  exact Gv.bind (h.ue (v := seCode v) hn (se_in hv)) fun w' h' => .ok h'
theorem rr_se_ok {s : BrS} {v : Int} {Y : List Int} (hv : -2147483648 ≤ v ∧ v ≤ 2147483648) (h : RR s (ueL (seCode v) ++ Y)) : ∃ s', F_BitReader_get_se s = .ok (v, s') ∧ RR s' Y := by
  obtain ⟨s', e, h'⟩ := rr_ue_ok (se_in hv) h
  refine ⟨s', ?_, h'⟩
  unfold F_BitReader_get_se
  rw [e, bind_ok]
  show Rx.ok (seBack (seCode v), s') = _
  rw [se_back]
theorem lse_eq {v : Int} (hv : -2147483648 ≤ v ∧ v ≤ 2147483648) : F__law_se v = .ok (ueL (seCode v)) := by
  have h := se_in hv
  unfold F__law_se
  unfold seCode at h ⊢
  by_cases c : 0 < v
  · rw [if_pos c] at h ⊢
    rw [if_pos c, lue_eq h]
    rfl
  · rw [if_neg c] at h ⊢
    rw [if_neg c, lue_eq h]
    rfl
theorem ue01 {v : Int} (h : 0 ≤ v) : B01 (ueL v) := by
  obtain ⟨k, e, lo, hi, e2, hl, hn, hb⟩ := ue_form h
  exact hb
theorem cut_head (x : Int) (A B : List Int) : cutL ([x] ++ A ++ B) (some 1) (some ((A.length : Int) + 1)) = A := by
  have e : (A.length : Int) + 1 = ((A.length + 1 : Nat) : Int) := by omega
  have e1 : (1 : Int) = ((1 : Nat) : Int) := rfl
  rw [e]
  unfold cutL
  rw [e1, HT.sIx_nat, HT.sIx_nat]
  simp
theorem cut_tail (x : Int) (A B : List Int) : cutL ([x] ++ A ++ B) (some ((A.length : Int) + 1)) none = B := by
  have e : (A.length : Int) + 1 = ((A.length + 1 : Nat) : Int) := by omega
  rw [e]
  unfold cutL
  rw [HT.sIx_nat]
  simp [HT.sIx_none]
def cntv (h r : Int) : Int := ((h + 7) / 8 + r - 1) / r
structure LOk (h r nu ix de : Int) : Prop where
  hr : 1 ≤ r ∧ r ≤ 32
  num : 0 ≤ nu ∧ nu ≤ 999
  idx : 0 ≤ ix ∧ ix < cntv h r
  big : cntv h r ≤ 100
  del : -31 ≤ de ∧ de ≤ 31
def lbits (nu ix de : Int) : List Int := ueL nu ++ ueL ix ++ ueL (seCode de)
section
variable {w h d c s r a b l nu ix de : Int}
theorem sl_init (k : LOk h r nu ix de) : F_SliceHeader___init__ (setv w h d c s r a b l) nu ix de = .ok ⟨nu, ix, de⟩ := by
  have e : ∀ t : Str, F__require (decide (ix < cntv h r)) t = .ok () := fun t => by
    unfold F__require
    rw [decide_eq_true k.idx.2]
    rfl
  unfold F_SliceHeader___init__
  rw [require_ok _ k.num.1 k.num.2, bind_ok, if_pos k.idx.1, slices_ok k.hr, bind_ok]
  show (((F__require (decide (ix < cntv h r)) _).bind _).bind _) = _
  rw [e]
  show F_SliceHeader___init___k1 nu ix de = _
  unfold F_SliceHeader___init___k1
  rw [require_ok _ k.del.1 k.del.2]
  rfl
theorem sl_eq (x y : St_SliceHeader) : F_SliceHeader___eq__ x y = .ok (decide (x = y)) := by
  obtain ⟨x1, x2, x3⟩ := x
  obtain ⟨y1, y2, y3⟩ := y
  unfold F_SliceHeader___eq__
  by_cases h1 : x1 = y1 <;> by_cases h2 : x2 = y2 <;> simp [h1, h2]
theorem lb01 (k : LOk h r nu ix de) : B01 (lbits nu ix de) := b01_app (b01_app (ue01 k.num.1) (ue01 k.idx.1)) (ue01 (se_in (v := de) (by have := k.del; omega)).1)
theorem lb_len (k : LOk h r nu ix de) : (lbits nu ix de).length ≤ 390 ∧ (packL (lbits nu ix de)).length ≤ 100 := by
  have h1 := k.num
  have h2 := k.idx
  have h3 := k.big
  have h4 := se_in (v := de) (by have := k.del; omega)
  have l1 := ue_len (v := nu) (by omega) (by omega)
  have l2 := ue_len (v := ix) (by omega) (by omega)
  have l3 := ue_len h4.1 h4.2
  have l : (lbits nu ix de).length ≤ 390 := by
    unfold lbits
    simp only [List.length_append]
    omega
  refine ⟨l, ?_⟩
  obtain ⟨m, g1, g2⟩ := padL_len (lbits nu ix de)
  unfold packL
  rw [List.length_map, List.length_range]
  omega
def whole (nu ix de : Int) (code : List Int) : List Int := [((packL (lbits nu ix de)).length : Int)] ++ packL (lbits nu ix de) ++ code
theorem write_ok {code : List Int} (S : St_Settings) (k : LOk h r nu ix de) (hc : code.length ≤ 900000) : F_write_slice S ⟨nu, ix, de⟩ code = .ok (whole nu ix de code) := by
  have h1 := k.num
  have h2 := k.idx
  have h3 := k.big
  have h4 := k.del
  have hl := (lb_len k).2
  unfold F_write_slice
  refine Gv.get (Gv.bind_eq (a := (⟨[], 0, 0⟩ : BwS)) rfl (Gv.bind (WL.nil.ue (by decide) (by show 0 ≤ nu ∧ nu ≤ 4294967296; omega)) fun w1 W1 => ?_))
  refine Gv.bind (W1.ue (by decide) (by show 0 ≤ ix ∧ ix ≤ 4294967296; omega)) fun w2 W2 => ?_
  refine Gv.bind (WL_se W2 (by decide) (by show -2147483648 ≤ de ∧ de ≤ 2147483648; omega)) fun w3 W3 => ?_
  refine Gv.bind_eq (a := packL (lbits nu ix de)) (W3.oct (by decide)) (Gv.grd (by show 1 + _ ≤ _; omega) (Gv.grd (by simp only [List.length_append, List.length_cons, List.length_nil]; omega) (.ok rfl)))
theorem read_ok {code : List Int} (k : LOk h r nu ix de) (hc : code.length ≤ 900000) : F_read_slice (setv w h d c s r a b l) (whole nu ix de code) = .ok (⟨nu, ix, de⟩, code) := by
  have h1 := k.num
  have h2 := k.idx
  have h3 := k.big
  have h4 := k.del
  have hl := (lb_len k).2
  obtain ⟨r0, e0, R0⟩ := init_pack (lb01 k)
  have R0 : RR r0 (ueL nu ++ (ueL ix ++ (ueL (seCode de) ++ []))) := by
    unfold lbits at R0
    simpa [List.append_assoc] using R0
  obtain ⟨r1, e1, R1⟩ := rr_ue_ok (by omega) R0
  obtain ⟨r2, e2, R2⟩ := rr_ue_ok (by omega) R1
  obtain ⟨r3, e3, R3⟩ := rr_se_ok (by omega) R2
  have g : F__get_slice (setv w h d c s r a b l) r0 = .ok (⟨nu, ix, de⟩, r3) := by
    unfold F__get_slice
    rw [e1, bind_ok, e2, noEr_ok, bind_ok, e3, noEr_ok, bind_ok, sl_init k]
    rfl
  have ne : ¬ whole nu ix de code = [] := by
    unfold whole
    simp
  have ln : ((whole nu ix de code).length : Int) = 1 + (packL (lbits nu ix de)).length + code.length := by
    unfold whole
    simp only [List.length_append, List.length_cons, List.length_nil]
    omega
  have at0 : itD (whole nu ix de code) 0 = ((packL (lbits nu ix de)).length : Int) := itD_nat (k := 0) rfl
  unfold F_read_slice
  rw [if_neg ne, grd_pos ⟨by omega, by omega⟩, bnd_eq, bind_ok, at0]
  unfold F_read_slice_k1
  have rq1 : ∀ t : Str, F__require (decide (((packL (lbits nu ix de)).length : Int) + 1 ≤ ((whole nu ix de code).length : Int))) t = .ok () := fun t => by
    unfold F__require
    rw [decide_eq_true (by omega)]
    rfl
  rw [rq1, bind_ok, bind_ok]
  unfold F_read_slice_k2
  have c1 : cutL (whole nu ix de code) (some 1) (some (((packL (lbits nu ix de)).length : Int) + 1)) = packL (lbits nu ix de) := cut_head _ _ _
  have c2 : cutL (whole nu ix de code) (some (((packL (lbits nu ix de)).length : Int) + 1)) none = code := cut_tail _ _ _
  rw [c1, e0, noEr_ok, bind_ok, g, noEr_ok, bind_ok]
  unfold F_BitReader_left
  rw [noEr_ok, bind_ok]
  show (((F__require (decide (r3.stop - r3.place = 0)) _).bind _).bind _) = _
  rw [rr_end R3]
  show F_read_slice_k3 _ _ _ = _
  unfold F_read_slice_k3
  rw [c2]
theorem zer_len (k : Int) : (repL [(0 : Int)] k).length = k.toNat := len_rep1 _ _
theorem long_ok (k : LOk h r nu ix de) (S : St_Settings) (cell : Int) : F__law_long S ⟨nu, ix, de⟩ (packL (lbits nu ix de)) cell = .ok true := by
  have hl := (lb_len k).2
  have hz : (repL [(0 : Int)] 65536).length = 65536 := (zer_len 65536).trans rfl
  unfold F__law_long
  generalize repL [(0 : Int)] 65536 = Z at *
  have W := write_ok (code := Z) S k (by omega)
  have ln : (whole nu ix de Z).length = 1 + (packL (lbits nu ix de)).length + 65536 := by
    unfold whole
    simp only [List.length_append, List.length_cons, List.length_nil]
    omega
  refine Gv.get (Gv.ite (fun _ => ?_) fun _ => .ok rfl)
  refine Gv.grd ⟨by decide, by decide, by decide⟩ (Gv.bind_eq W (Gv.grd (by show 1 + _ ≤ _; omega) (Gv.grd ⟨by decide, by decide, by decide⟩ (Gv.grd (by simp only [List.length_append, List.length_cons, List.length_nil]; omega) (Gv.pos rfl ?_)))))
  refine Gv.tryEr (e := 2) ?_ (by simp) (.ok rfl)
  unfold F_write_unit
  rw [if_pos (by decide), if_pos (by decide), if_pos (by omega)]
theorem lvl_eq (x : Int) : (if (31 : Int) < (if 0 > x then 0 else x) then 31 else (if 0 > x then 0 else x)) = (if (if x > 0 then x else 0) < 31 then (if x > 0 then x else 0) else 31) := by
  split <;> split <;> split <;> omega
theorem k2_ok (k : LOk h r nu ix de) : F_law_k2 (setv w h d c s r a b l) nu ix de ⟨nu, ix, de⟩ = .ok true := by
  have k0 : LOk h r nu ix 0 := { k with del := by decide }
  unfold F_law_k2
  rw [sl_init k0, bind_ok]
  show (if decide ((0 : Int) = 0) = true then _ else _) = _
  rw [if_pos (by decide), sl_eq, noEr_ok, bind_ok]
  congr 1
  rw [decide_eq_true_iff]
  congr 1
  rw [decide_eq_decide, St_SliceHeader.mk.injEq]
  constructor
  · rintro ⟨_, _, z⟩
    exact z.symm
  · intro z
    exact ⟨rfl, rfl, z.symm⟩
theorem k1_ok (k : LOk h r nu ix de) (ha : 0 ≤ a ∧ a ≤ 1) (hs : 1 ≤ s ∧ s ≤ 4) (hl : 1 ≤ l ∧ l ≤ 4) (script code : List Int) (hc : code.length ≤ 1000) :
    F_law_k1 script (NL w h d c s r a b l) (setv w h d c s r a b l) (cntv h r) nu ix de ⟨nu, ix, de⟩ code = .ok true := by
  have h1 := k.num
  have h2 := k.idx
  have h3 := k.big
  have h4 := k.del
  have hl2 := lb_len k
  have h5 := se_in (v := de) (by omega)
  have l1 := ue_len (v := nu) (by omega) (by omega)
  have l2 := ue_len (v := ix) (by omega) (by omega)
  have l3 := ue_len h5.1 h5.2
  have W := write_ok (code := code) (setv w h d c s r a b l) k (by omega)
  have R := read_ok (w := w) (d := d) (c := c) (s := s) (a := a) (b := b) (l := l) (code := code) k (by omega)
  have G1 : ([((packL (lbits nu ix de)).length : Int)]).length + (packL (lbits nu ix de)).length ≤ 1000000 := by show 1 + _ ≤ _; omega
  have G2 : ([((packL (lbits nu ix de)).length : Int)] ++ packL (lbits nu ix de)).length + code.length ≤ 1000000 := by simp only [List.length_append, List.length_cons, List.length_nil]; omega
  unfold F_law_k1
  refine Gv.get (Gv.bind_eq (lue_eq (v := nu) (by omega)) (Gv.bind_eq (lue_eq (v := ix) (by omega)) (Gv.grd (by omega) (Gv.bind_eq (lse_eq (v := de) (by omega)) (Gv.grd (by simp only [List.length_append]; omega) ?_)))))
  refine Gv.bind_eq (a := packL (lbits nu ix de)) (lpacked_eq (bs := lbits nu ix de) (lb01 k) (by omega)) (Gv.bind_eq W (Gv.grd G1 (Gv.grd G2 (Gv.pos rfl (Gv.pos rfl (Gv.bind_eq R (Gv.pos rfl ?_)))))))
  refine Gv.bind_eq (a := true) (by rw [sl_eq, noEr_ok, decide_eq_true rfl]) (Gv.neg (by decide) (Gv.pos rfl (Gv.grd G1 (Gv.grd G2 (Gv.pos rfl (Gv.grd (by show code.length ≤ _; omega) (Gv.bnd fun _ _ => Gv.bind_eq R (Gv.pos rfl (Gv.bind_eq W (Gv.pos rfl ?_))))))))))
  refine Gv.bind (cell_gv _ _ (by decide)) fun v4 _ => Gv.bind_eq (long_ok k _ v4) (Gv.pos rfl (Gv.bind (cell_gv _ _ (by decide)) fun v3 _ => Gv.bind (picture_gv v3 ha hs hl) fun p hp => ?_))
  obtain ⟨pn, kd, lv, st, rf, wt, ly, sh, ed, rfl, hkd, hst, hrf, H⟩ := hp
  refine Gv.bind_eq (header_ok hkd hst hrf H) (Gv.bind_eq (a := (if (31 : Int) < (if 0 > lv + de then 0 else lv + de) then 31 else (if 0 > lv + de then 0 else lv + de))) rfl (Gv.grd (by show -(9 : Int) ≤ 2 ∧ (2 : Int) < 9; decide) (Gv.grd rfl (Gv.pos (lvl_eq _) ?_))))
  have m0 := Int.emod_nonneg (nu + 1) (show (1000 : Int) ≠ 0 by decide)
  have m1 := Int.emod_lt_of_pos (nu + 1) (show (0 : Int) < 1000 by decide)
  have kt : LOk h r ((nu + 1) % 1000) ix de := { k with num := ⟨m0, by omega⟩ }
  have ne1 : ¬ ((⟨(nu + 1) % 1000, ix, de⟩ : St_SliceHeader) = ⟨nu, ix, de⟩) := fun z => by
    have := (St_SliceHeader.mk.injEq _ _ _ _ _ _).mp z
    omega
  refine Gv.bind_eq (sl_init kt) (Gv.bind_eq (a := false) (by rw [sl_eq, noEr_ok, decide_eq_false ne1]) (Gv.neg (by decide) (Gv.bind (P := fun q => q = Lp.go ()) (Gv.ite (fun hc1 => ?_) fun _ => .ok rfl) fun q hq => ?_)))
  · have n0 := Int.emod_nonneg (ix + 1) (show cntv h r ≠ 0 by omega)
    have n1 := Int.emod_lt_of_pos (ix + 1) (show 0 < cntv h r by omega)
    have ki : LOk h r nu ((ix + 1) % cntv h r) de := { k with idx := ⟨n0, n1⟩ }
    have ne2 : ¬ ((⟨nu, (ix + 1) % cntv h r, de⟩ : St_SliceHeader) = ⟨nu, ix, de⟩) := fun z => by
      have z := ((St_SliceHeader.mk.injEq _ _ _ _ _ _).mp z).2.1
      rcases (by omega : ix + 1 < cntv h r ∨ ix + 1 = cntv h r) with q | q
      · rw [Int.emod_eq_of_lt (by omega) q] at z
        omega
      · rw [q, Int.emod_self] at z
        omega
    exact Gv.grd (by omega) (Gv.bind_eq (sl_init ki) (Gv.bind_eq (a := false) (by rw [sl_eq, noEr_ok, decide_eq_false ne2]) (Gv.neg (by decide) (.ok rfl))))
  · subst hq
    exact .of_eq (k2_ok k) rfl
end
theorem cnt_in {h r : Int} (hh : 1 ≤ h ∧ h ≤ 256) (hr : 1 ≤ r ∧ r ≤ 32) : 1 ≤ cntv h r ∧ cntv h r ≤ 100 := by
  unfold cntv
  have e : 1 ≤ (h + 7) / 8 ∧ (h + 7) / 8 ≤ 32 := by omega
  generalize (h + 7) / 8 = q at *
  refine ⟨Int.le_ediv_of_mul_le (by omega) (by omega), ?_⟩
  have : (q + r - 1) / r ≤ q + r - 1 := Int.ediv_le_self _ (by omega)
  omega
theorem law_true (xs : List Int) (h : xs.length ≤ 63) : F_law xs = .ok true := by
  refine Gv.get ?_
  unfold F_law
  refine Gv.bind (cell_gv _ _ (by decide)) fun v _ => Gv.bind (numbers_gv v) fun n hn => ?_
  obtain ⟨w, h, d, c, s, r, a, b, l, rfl, hw, hh, hd, hc, hs, hr, hl, ha, hb⟩ := hn
  have S := settings_ok (a := a) (b := b) hw hh hd hc hs hr hl
  have cn := cnt_in hh hr
  have e1 : itD [w, h, d, c, s, r, a, b, l] 1 = h := rfl
  have e5 : itD [w, h, d, c, s, r, a, b, l] 5 = r := rfl
  rw [e1, e5]
  refine Gv.bind_eq S (Gv.grd (ixg (n := 9) rfl (by decide)) (Gv.grd (ixg (n := 9) rfl (by decide)) (Gv.grd (ixg (n := 9) rfl (by decide)) (Gv.grd ⟨by omega, by omega⟩ (Gv.bnd fun cnt hcnt => ?_)))))
  have hcnt : cnt = cntv h r := hcnt
  subst hcnt
  refine Gv.bind (cell_gv _ _ (by decide)) fun v1 _ => Gv.bind (draws_gv v1 _ (by decide) (by decide)) fun D hD => ?_
  obtain ⟨d0, r0, rfl, _, _, hD⟩ := hD.cons
  obtain ⟨d1, r1, rfl, _, _, hD⟩ := hD.cons
  obtain ⟨d2, r2, rfl, _, _, hD⟩ := hD.cons
  obtain ⟨d3, r3, rfl, _, _, hD⟩ := hD.cons
  obtain ⟨d4, r4, rfl, _, _, hD⟩ := hD.cons
  obtain ⟨d5, r5, rfl, _, _, hD⟩ := hD.cons
  obtain ⟨d6, r6, rfl, b6, c6, hD⟩ := hD.cons
  obtain ⟨d7, r7, rfl, _, _, hD⟩ := hD.cons
  obtain rfl := hD.nil
  have e6 : itD [d0, d1, d2, d3, d4, d5, d6, d7] 6 = d6 := rfl
  rw [e6]
  refine Gv.grd (ixg (n := 8) rfl (by decide)) (Gv.grd (ixg (n := 8) rfl (by decide)) (Gv.bind (between_gv _ _ 0 999 (by decide)) fun nu hnu => Gv.grd (ixg (n := 8) rfl (by decide)) (Gv.grd (ixg (n := 8) rfl (by decide)) (Gv.bind (between_gv _ _ 0 (cntv h r - 1) (by omega)) fun ix hix => ?_))))
  refine Gv.grd (ixg (n := 8) rfl (by decide)) (Gv.grd (ixg (n := 8) rfl (by decide)) (Gv.bind (between_gv _ _ (-31) 31 (by decide)) fun de hde => ?_))
  have k : LOk h r nu ix de := ⟨hr, hnu, ⟨hix.1, by omega⟩, cn.2, hde⟩
  refine Gv.bind_eq (sl_init k) (Gv.pos rfl (Gv.bind_eq (slices_ok hr) (Gv.pos rfl (Gv.bind (cell_gv _ _ (by decide)) fun v2 _ => Gv.grd (ixg (n := 8) rfl (by decide)) (Gv.grd ⟨by omega, by omega, by show 1 * d6.toNat ≤ _; omega⟩ ?_)))))
  have hlr : (repL [(256 : Int)] d6).length = d6.toNat := len_rep1 _ _
  refine Gv.bind (draws_gv v2 _ (fun x hx => by rw [mem_rep1 hx]; decide) (by omega)) fun code hcode => ?_
  have hcl := hcode.len
  refine Gv.bind (P := fun q => q.length ≤ 1000) (Gv.grd (ixg (n := 8) rfl (by decide)) (Gv.ite (fun _ => Gv.grd (ixg (n := 8) rfl (by decide)) (Gv.grd ⟨by omega, by omega, by show 1 * d6.toNat ≤ _; omega⟩ (.ok (by rw [zer_len]; omega)))) fun _ => .ok (by omega))) fun q hq => ?_
  exact .of_eq (k1_ok k ha hs hl xs q hq) rfl
end

end Vx
namespace Vx
open PySem PySem.Spec PyProof.Rows L2
def topS (i : Nat) : Stmt := PySem.Challenge.pw_thaumatrope_k22_slices_written_and_read.main.body.getD i (.Pass ⟨0, 0, 0, 0⟩)
abbrev s__law_draws : Stmt := topS 45
abbrev s__law_between : Stmt := topS 46
abbrev s__law_numbers : Stmt := topS 51
abbrev s_Format___init__ : Stmt := inClass (topS 18) 0
abbrev s__require : Stmt := topS 32
abbrev s_Settings___init__ : Stmt := inClass (topS 25) 0
abbrev s__law_settings : Stmt := topS 52
abbrev s_Format_blocks : Stmt := inClass (topS 18) 7
abbrev s_Settings_slices : Stmt := inClass (topS 25) 2
abbrev s_SliceHeader___init__ : Stmt := inClass (topS 27) 0
abbrev s_SliceHeader___eq__ : Stmt := inClass (topS 27) 1
abbrev s__law_packed : Stmt := topS 50
abbrev s_BitWriter___init__ : Stmt := inClass (topS 13) 0
abbrev s_BitWriter__add : Stmt := inClass (topS 13) 6
abbrev s_BitWriter_put_ue : Stmt := inClass (topS 13) 3
abbrev s_BitWriter_put_se : Stmt := inClass (topS 13) 4
abbrev s_BitWriter_octets : Stmt := inClass (topS 13) 5
abbrev s_write_slice : Stmt := topS 30
abbrev s__last_bit : Stmt := topS 15
abbrev s_BitReader___init__ : Stmt := inClass (topS 14) 0
abbrev s_BitReader__look : Stmt := inClass (topS 14) 7
abbrev s_BitReader__zeros : Stmt := inClass (topS 14) 5
abbrev s_BitReader__take : Stmt := inClass (topS 14) 6
abbrev s_BitReader_get_ue : Stmt := inClass (topS 14) 3
abbrev s_BitReader_get_se : Stmt := inClass (topS 14) 4
abbrev s__get_slice : Stmt := topS 35
abbrev s_BitReader_left : Stmt := inClass (topS 14) 1
abbrev s_read_slice : Stmt := topS 31
abbrev s__law_picture : Stmt := topS 53
abbrev s__law_cell : Stmt := topS 44
abbrev s_escape : Stmt := topS 41
abbrev s_write_unit : Stmt := topS 42
abbrev s__law_long : Stmt := topS 55
abbrev s_clip : Stmt := topS 2
abbrev s_level_with : Stmt := topS 29
abbrev s_slice_level : Stmt := topS 28
abbrev s__law_bits : Stmt := topS 47
abbrev s__law_ue : Stmt := topS 48
abbrev s__law_se : Stmt := topS 49
abbrev s__check_numbers : Stmt := topS 33
abbrev s__check_slots : Stmt := topS 34
abbrev s_PictureHeader___init__ : Stmt := inClass (topS 26) 0
abbrev s__law_header : Stmt := topS 54
abbrev s_law : Stmt := topS 56
structure Ads where
  td_PictureHeader___init___store : Addr
  td_PictureHeader___init___refs : Addr
  c_BitWriter : Addr
  c_BitReader : Addr
  c_Format : Addr
  c_Settings : Addr
  c_PictureHeader : Addr
  c_SliceHeader : Addr
  x_CodecError : Addr
  x_BadFormat : Addr
  x_OutOfRange : Addr
  x_OutOfBits : Addr
  x_BadOctets : Addr
  x_BadHeader : Addr
  t_KINDS : Addr
  t_REF_COUNTS : Addr
  t_REF_COUNTS_0 : Addr
  t_REF_COUNTS_1 : Addr
  t_REF_COUNTS_2 : Addr
  z0 : Addr
def excA (AD : Ads) : Nat → Addr
  | 0 => AD.x_CodecError
  | 1 => AD.x_BadFormat
  | 2 => AD.x_OutOfRange
  | 3 => AD.x_OutOfBits
  | 4 => AD.x_BadOctets
  | 5 => AD.x_BadHeader
  | _ => AD.z0
structure Txt (w : World) (K : PySem.W.Frag) (mg : Str → Option Value) (AD : Ads) : Prop where
  b_abs : mg "abs" = none
  b_int : mg "int" = none
  b_min : mg "min" = none
  g_BLOCK : ∃ u, mg "BLOCK" = some u ∧ RelV (V.int 8) u
  g_GREATEST_NUMBER : ∃ u, mg "GREATEST_NUMBER" = some u ∧ RelV (V.int 999) u
  g_GREATEST_LEVEL : ∃ u, mg "GREATEST_LEVEL" = some u ∧ RelV (V.int 31) u
  b_isinstance : mg "isinstance" = none
  b_len : mg "len" = none
  b_range : mg "range" = none
  b_sum : mg "sum" = none
  b_list : mg "list" = none
  g_MOST_ZEROS : ∃ u, mg "MOST_ZEROS" = some u ∧ RelV (V.int 32) u
  g_ESCAPE : ∃ u, mg "ESCAPE" = some u ∧ RelV (V.int 3) u
  g_GREATEST_KIND : ∃ u, mg "GREATEST_KIND" = some u ∧ RelV (V.int 31) u
  g_MOST_OCTETS : ∃ u, mg "MOST_OCTETS" = some u ∧ RelV (V.int 65536) u
  g_STOP : ∃ u, mg "STOP" = some u ∧ RelV (V.int 128) u
  b_ValueError : mg "ValueError" = none
  b_max : mg "max" = none
  g_KINDS : ∃ u, mg "KINDS" = some u ∧ RelV (V.ref AD.t_KINDS) u
  ts_KINDS : ∀ H, SqT K H AD.t_KINDS ((["I", "P", "B"] : List Str).map V.str)
  g_EVEN_WEIGHT : ∃ u, mg "EVEN_WEIGHT" = some u ∧ RelV (V.int 8) u
  b_sorted : mg "sorted" = none
  b_set : mg "set" = none
  g_REF_COUNTS : ∃ u, mg "REF_COUNTS" = some u ∧ RelV (V.ref AD.t_REF_COUNTS) u
  kd_REF_COUNTS : KDA K w AD.t_REF_COUNTS ([("I", AD.t_REF_COUNTS_0), ("P", AD.t_REF_COUNTS_1), ("B", AD.t_REF_COUNTS_2)] : List (Str × Addr))
  th_REF_COUNTS : ∀ z, hasG ([("I", [0]), ("P", [1, 2]), ("B", [2])] : List (Str × List Int)) z = true → hasG ([("I", AD.t_REF_COUNTS_0), ("P", AD.t_REF_COUNTS_1), ("B", AD.t_REF_COUNTS_2)] : List (Str × Addr)) z = true
  tt_REF_COUNTS : ∀ z, hasG ([("I", [0]), ("P", [1, 2]), ("B", [2])] : List (Str × List Int)) z = true → ∀ H, SqT K H (dictG ([("I", AD.t_REF_COUNTS_0), ("P", AD.t_REF_COUNTS_1), ("B", AD.t_REF_COUNTS_2)] : List (Str × Addr)) z) ((dictG ([("I", [0]), ("P", [1, 2]), ("B", [2])] : List (Str × List Int)) z).map V.int)
  b_tuple : mg "tuple" = none
  td_PictureHeader___init___store : ∀ H, SqT K H AD.td_PictureHeader___init___store (([] : List Int).map V.int)
  td_PictureHeader___init___refs : ∀ H, SqT K H AD.td_PictureHeader___init___refs (([] : List Int).map V.int)
  cl_Format : Cls K AD.c_Format
  n_Format_width : NoAttr K AD.c_Format "width"
  n_Format_height : NoAttr K AD.c_Format "height"
  n_Format_depth : NoAttr K AD.c_Format "depth"
  n_Format_chroma : NoAttr K AD.c_Format "chroma"
  cl_Settings : Cls K AD.c_Settings
  n_Settings_fmt : NoAttr K AD.c_Settings "fmt"
  n_Settings_slots : NoAttr K AD.c_Settings "slots"
  n_Settings_rows : NoAttr K AD.c_Settings "rows"
  n_Settings_deblock : NoAttr K AD.c_Settings "deblock"
  n_Settings_offset : NoAttr K AD.c_Settings "offset"
  n_Settings_layers : NoAttr K AD.c_Settings "layers"
  cl_SliceHeader : Cls K AD.c_SliceHeader
  cg_SliceHeader : mg "SliceHeader" = some (.ref AD.c_SliceHeader)
  ci_SliceHeader : IsiC K AD.c_SliceHeader
  n_SliceHeader_number : NoAttr K AD.c_SliceHeader "number"
  n_SliceHeader_index : NoAttr K AD.c_SliceHeader "index"
  n_SliceHeader_delta : NoAttr K AD.c_SliceHeader "delta"
  cl_BitWriter : Cls K AD.c_BitWriter
  n_BitWriter__full : NoAttr K AD.c_BitWriter "_full"
  n_BitWriter__rest : NoAttr K AD.c_BitWriter "_rest"
  n_BitWriter__rest_bits : NoAttr K AD.c_BitWriter "_rest_bits"
  cl_BitReader : Cls K AD.c_BitReader
  n_BitReader__octets : NoAttr K AD.c_BitReader "_octets"
  n_BitReader__place : NoAttr K AD.c_BitReader "_place"
  n_BitReader__end : NoAttr K AD.c_BitReader "_end"
  cl_PictureHeader : Cls K AD.c_PictureHeader
  n_PictureHeader_number : NoAttr K AD.c_PictureHeader "number"
  n_PictureHeader_kind : NoAttr K AD.c_PictureHeader "kind"
  n_PictureHeader_level : NoAttr K AD.c_PictureHeader "level"
  n_PictureHeader_store : NoAttr K AD.c_PictureHeader "store"
  n_PictureHeader_refs : NoAttr K AD.c_PictureHeader "refs"
  n_PictureHeader_weight : NoAttr K AD.c_PictureHeader "weight"
  n_PictureHeader_layer : NoAttr K AD.c_PictureHeader "layer"
  n_PictureHeader_shown : NoAttr K AD.c_PictureHeader "shown"
  n_PictureHeader_edge : NoAttr K AD.c_PictureHeader "edge"
  xg_BadFormat : mg "BadFormat" = some (.ref AD.x_BadFormat)
  xx_BadFormat : PySem.W.excIn K AD.x_BadFormat [.type "ValueError", .type "Exception", .type "BaseException", .type "object"] "ValueError.__new__" = true
  xk_BadFormat : PySem.W.keepIn K (.ref AD.x_BadFormat) = true
  xb_BadFormat : PySem.W.subIn K (.ref AD.x_BadFormat) (.type "BaseException") = some true
  xt_BadFormat : PySem.W.typeIn K (.ref AD.x_BadFormat) = some (.type "type")
  xg_BadHeader : mg "BadHeader" = some (.ref AD.x_BadHeader)
  xx_BadHeader : PySem.W.excIn K AD.x_BadHeader [.type "ValueError", .type "Exception", .type "BaseException", .type "object"] "ValueError.__new__" = true
  xk_BadHeader : PySem.W.keepIn K (.ref AD.x_BadHeader) = true
  xb_BadHeader : PySem.W.subIn K (.ref AD.x_BadHeader) (.type "BaseException") = some true
  xt_BadHeader : PySem.W.typeIn K (.ref AD.x_BadHeader) = some (.type "type")
  xg_OutOfRange : mg "OutOfRange" = some (.ref AD.x_OutOfRange)
  xx_OutOfRange : PySem.W.excIn K AD.x_OutOfRange [.type "ValueError", .type "Exception", .type "BaseException", .type "object"] "ValueError.__new__" = true
  xk_OutOfRange : PySem.W.keepIn K (.ref AD.x_OutOfRange) = true
  xb_OutOfRange : PySem.W.subIn K (.ref AD.x_OutOfRange) (.type "BaseException") = some true
  xt_OutOfRange : PySem.W.typeIn K (.ref AD.x_OutOfRange) = some (.type "type")
  xg_BadOctets : mg "BadOctets" = some (.ref AD.x_BadOctets)
  xx_BadOctets : PySem.W.excIn K AD.x_BadOctets [.type "ValueError", .type "Exception", .type "BaseException", .type "object"] "ValueError.__new__" = true
  xk_BadOctets : PySem.W.keepIn K (.ref AD.x_BadOctets) = true
  xb_BadOctets : PySem.W.subIn K (.ref AD.x_BadOctets) (.type "BaseException") = some true
  xt_BadOctets : PySem.W.typeIn K (.ref AD.x_BadOctets) = some (.type "type")
  xg_OutOfBits : mg "OutOfBits" = some (.ref AD.x_OutOfBits)
  xx_OutOfBits : PySem.W.excIn K AD.x_OutOfBits [.type "ValueError", .type "Exception", .type "BaseException", .type "object"] "ValueError.__new__" = true
  xk_OutOfBits : PySem.W.keepIn K (.ref AD.x_OutOfBits) = true
  xb_OutOfBits : PySem.W.subIn K (.ref AD.x_OutOfBits) (.type "BaseException") = some true
  xt_OutOfBits : PySem.W.typeIn K (.ref AD.x_OutOfBits) = some (.type "type")
  xm_OutOfRange_OutOfRange : PySem.W.exmOne K (.ref AD.x_OutOfRange) (.ref AD.x_OutOfRange) = some true
  xv_OutOfRange_ValueError : PySem.W.kitOne K (.ref AD.x_OutOfRange) (.type "ValueError") = some true
  xc_OutOfRange : ExcC K AD.x_OutOfRange
abbrev pat__law_draws_0 : Pat := (2, [], fun vs _ => vs)
abbrev pats__law_draws : List Pat := [pat__law_draws_0]
abbrev pat__law_between_0 : Pat := (4, [], fun vs _ => vs)
abbrev pats__law_between : List Pat := [pat__law_between_0]
abbrev pat__law_numbers_0 : Pat := (1, [], fun vs _ => vs)
abbrev pats__law_numbers : List Pat := [pat__law_numbers_0]
abbrev pat_Format___init___0 : Pat := (3, ["depth", "chroma"], fun vs zs => match vs, zs with | [a0, a1, a2], [b0, b1] => [a0, a1, a2, b0, b1] | _, _ => [])
abbrev pats_Format___init__ : List Pat := [pat_Format___init___0]
abbrev pat__require_0 : Pat := (2, [], fun vs _ => vs)
abbrev pats__require : List Pat := [pat__require_0]
abbrev pat_Settings___init___0 : Pat := (2, ["slots", "rows", "deblock", "offset", "layers"], fun vs zs => match vs, zs with | [a0, a1], [b0, b1, b2, b3, b4] => [a0, a1, b0, b1, b2, b3, b4] | _, _ => [])
abbrev pats_Settings___init__ : List Pat := [pat_Settings___init___0]
abbrev pat__law_settings_0 : Pat := (1, [], fun vs _ => vs)
abbrev pats__law_settings : List Pat := [pat__law_settings_0]
abbrev pat_Format_blocks_0 : Pat := (1, [], fun vs _ => vs)
abbrev pats_Format_blocks : List Pat := [pat_Format_blocks_0]
abbrev pat_Settings_slices_0 : Pat := (1, [], fun vs _ => vs)
abbrev pats_Settings_slices : List Pat := [pat_Settings_slices_0]
abbrev pat_SliceHeader___init___0 : Pat := (2, ["number", "index", "delta"], fun vs zs => match vs, zs with | [a0, a1], [b0, b1, b2] => [a0, a1, b0, b1, b2] | _, _ => [])
def gk_SliceHeader___init___1 {α : Type} (us mz ws : List α) : List α := match us, mz, ws with | [a0, a1], [m0], [b0, b1] => [a0, a1, b0, b1, m0] | _, _, _ => []
theorem gknil_SliceHeader___init___1 {α : Type} {us mz ws : List α} (h : us.length ≠ 2 ∨ mz.length ≠ 1 ∨ ws.length ≠ 2) : gk_SliceHeader___init___1 us mz ws = [] := by
  unfold gk_SliceHeader___init___1
  split
  · simp at h
  · rfl
theorem gkrel_SliceHeader___init___1 {vs mz zs : List V} {us mv ws : List Value} (r : Vals vs us) (s : Vals mz mv) (q : Vals zs ws) : Vals (gk_SliceHeader___init___1 vs mz zs) (gk_SliceHeader___init___1 us mv ws) := by
  by_cases h1 : vs.length = 2
  · by_cases h2 : mz.length = 1
    · by_cases h3 : zs.length = 2
      · obtain ⟨a0, a1, rfl⟩ := len2 h1
        obtain ⟨m0, rfl⟩ := len1 h2
        obtain ⟨b0, b1, rfl⟩ := len2 h3
        cases r with | cons r0 r =>
          cases r with | cons r1 r =>
            cases r
            cases s with | cons s0 s =>
              cases s
              cases q with | cons q0 q =>
                cases q with | cons q1 q =>
                  cases q
                  exact (.cons r0 (.cons r1 (.cons q0 (.cons q1 (.cons s0 .nil)))))
      · have k : ws.length ≠ 2 := fun z => h3 (q.length.trans z)
        rw [gknil_SliceHeader___init___1 (by first | exact .inl h3 | exact .inr (.inl h3) | exact .inr (.inr h3)), gknil_SliceHeader___init___1 (by first | exact .inl k | exact .inr (.inl k) | exact .inr (.inr k))]
        exact .nil
    · have k : mv.length ≠ 1 := fun z => h2 (s.length.trans z)
      rw [gknil_SliceHeader___init___1 (by first | exact .inl h2 | exact .inr (.inl h2) | exact .inr (.inr h2)), gknil_SliceHeader___init___1 (by first | exact .inl k | exact .inr (.inl k) | exact .inr (.inr k))]
      exact .nil
  · have k : us.length ≠ 2 := fun z => h1 (r.length.trans z)
    rw [gknil_SliceHeader___init___1 (by first | exact .inl h1 | exact .inr (.inl h1) | exact .inr (.inr h1)), gknil_SliceHeader___init___1 (by first | exact .inl k | exact .inr (.inl k) | exact .inr (.inr k))]
    exact .nil
abbrev pat_SliceHeader___init___1 : Pat := (2, ["number", "index"], fun vs zs => gk_SliceHeader___init___1 vs [V.int 0] zs)
abbrev pats_SliceHeader___init__ : List Pat := [pat_SliceHeader___init___0, pat_SliceHeader___init___1]
abbrev pat_SliceHeader___eq___0 : Pat := (2, [], fun vs _ => vs)
abbrev pats_SliceHeader___eq__ : List Pat := [pat_SliceHeader___eq___0]
abbrev pat__law_packed_0 : Pat := (1, [], fun vs _ => vs)
abbrev pats__law_packed : List Pat := [pat__law_packed_0]
abbrev pat_BitWriter___init___0 : Pat := (1, [], fun vs _ => vs)
abbrev pats_BitWriter___init__ : List Pat := [pat_BitWriter___init___0]
abbrev pat_BitWriter__add_0 : Pat := (3, [], fun vs _ => vs)
abbrev pats_BitWriter__add : List Pat := [pat_BitWriter__add_0]
abbrev pat_BitWriter_put_ue_0 : Pat := (2, [], fun vs _ => vs)
abbrev pats_BitWriter_put_ue : List Pat := [pat_BitWriter_put_ue_0]
abbrev pat_BitWriter_put_se_0 : Pat := (2, [], fun vs _ => vs)
abbrev pats_BitWriter_put_se : List Pat := [pat_BitWriter_put_se_0]
abbrev pat_BitWriter_octets_0 : Pat := (1, [], fun vs _ => vs)
abbrev pats_BitWriter_octets : List Pat := [pat_BitWriter_octets_0]
abbrev pat_write_slice_0 : Pat := (3, [], fun vs _ => vs)
abbrev pats_write_slice : List Pat := [pat_write_slice_0]
abbrev pat__last_bit_0 : Pat := (1, [], fun vs _ => vs)
abbrev pats__last_bit : List Pat := [pat__last_bit_0]
abbrev pat_BitReader___init___0 : Pat := (2, [], fun vs _ => vs)
abbrev pats_BitReader___init__ : List Pat := [pat_BitReader___init___0]
abbrev pat_BitReader__look_0 : Pat := (3, [], fun vs _ => vs)
abbrev pats_BitReader__look : List Pat := [pat_BitReader__look_0]
abbrev pat_BitReader__zeros_0 : Pat := (1, [], fun vs _ => vs)
abbrev pats_BitReader__zeros : List Pat := [pat_BitReader__zeros_0]
abbrev pat_BitReader__take_0 : Pat := (2, [], fun vs _ => vs)
abbrev pats_BitReader__take : List Pat := [pat_BitReader__take_0]
abbrev pat_BitReader_get_ue_0 : Pat := (1, [], fun vs _ => vs)
abbrev pats_BitReader_get_ue : List Pat := [pat_BitReader_get_ue_0]
abbrev pat_BitReader_get_se_0 : Pat := (1, [], fun vs _ => vs)
abbrev pats_BitReader_get_se : List Pat := [pat_BitReader_get_se_0]
abbrev pat__get_slice_0 : Pat := (2, [], fun vs _ => vs)
abbrev pats__get_slice : List Pat := [pat__get_slice_0]
abbrev pats_BitReader_left : List Pat := []
abbrev pat_read_slice_0 : Pat := (2, [], fun vs _ => vs)
abbrev pats_read_slice : List Pat := [pat_read_slice_0]
abbrev pat__law_picture_0 : Pat := (2, [], fun vs _ => vs)
abbrev pats__law_picture : List Pat := [pat__law_picture_0]
abbrev pat__law_cell_0 : Pat := (2, [], fun vs _ => vs)
abbrev pats__law_cell : List Pat := [pat__law_cell_0]
abbrev pat_escape_0 : Pat := (1, [], fun vs _ => vs)
abbrev pats_escape : List Pat := [pat_escape_0]
abbrev pat_write_unit_0 : Pat := (2, [], fun vs _ => vs)
abbrev pats_write_unit : List Pat := [pat_write_unit_0]
abbrev pat__law_long_0 : Pat := (4, [], fun vs _ => vs)
abbrev pats__law_long : List Pat := [pat__law_long_0]
abbrev pat_clip_0 : Pat := (3, [], fun vs _ => vs)
abbrev pats_clip : List Pat := [pat_clip_0]
abbrev pat_level_with_0 : Pat := (2, [], fun vs _ => vs)
abbrev pats_level_with : List Pat := [pat_level_with_0]
abbrev pat_slice_level_0 : Pat := (2, [], fun vs _ => vs)
abbrev pats_slice_level : List Pat := [pat_slice_level_0]
abbrev pat__law_bits_0 : Pat := (2, [], fun vs _ => vs)
abbrev pats__law_bits : List Pat := [pat__law_bits_0]
abbrev pat__law_ue_0 : Pat := (1, [], fun vs _ => vs)
abbrev pats__law_ue : List Pat := [pat__law_ue_0]
abbrev pat__law_se_0 : Pat := (1, [], fun vs _ => vs)
abbrev pats__law_se : List Pat := [pat__law_se_0]
abbrev pat__check_numbers_0 : Pat := (2, [], fun vs _ => vs)
abbrev pats__check_numbers : List Pat := [pat__check_numbers_0]
abbrev pat__check_slots_0 : Pat := (2, [], fun vs _ => vs)
abbrev pats__check_slots : List Pat := [pat__check_slots_0]
abbrev pat_PictureHeader___init___0 (AD : Ads) : Pat := (2, ["number", "kind", "level", "store", "refs", "weight", "layer", "shown", "edge"], fun vs zs => match vs, zs with | [a0, a1], [b0, b1, b2, b3, b4, b5, b6, b7, b8] => [a0, a1, b0, b1, b2, b3, b4, b5, b6, b7, b8] | _, _ => [])
abbrev pats_PictureHeader___init__ (AD : Ads) : List Pat := [pat_PictureHeader___init___0 AD]
abbrev pat__law_header_0 : Pat := (2, [], fun vs _ => vs)
abbrev pats__law_header : List Pat := [pat__law_header_0]
abbrev pats_law : List Pat := []
def sp__law_draws (K : PySem.W.Frag) (AD : Ads) : Sp := fun vs H Q E => ∃ (G : Hp) (cell' : Int) (a_limits : Addr) (limits' : List Int), vs = [.int cell', .ref a_limits] ∧ Same G H ∧ (hideL [] H) a_limits = some (.lst ((limits' : List Int).map V.int)) ∧ cW (F__law_draws cell' limits') (fun v => ∀ p H', H p = none → Same H H' → H' p = some (.lst (v.map V.int)) → Q (.ref p) H') (fun e => ∀ H', Same H H' → E (.ref (excA AD e)) none H')
def sp__law_between (K : PySem.W.Frag) (AD : Ads) : Sp := fun vs H Q E => ∃ (G : Hp) (first' : Int) (second' : Int) (low' : Int) (high' : Int), vs = [.int first', .int second', .int low', .int high'] ∧ Same G H ∧ cW (F__law_between first' second' low' high') (fun v => Q (.int v) H) (fun e => E (.ref (excA AD e)) none H)
def sp__law_numbers (K : PySem.W.Frag) (AD : Ads) : Sp := fun vs H Q E => ∃ (G : Hp) (cell' : Int), vs = [.int cell'] ∧ Same G H ∧ cW (F__law_numbers cell') (fun v => ∀ p H', H p = none → Same H H' → H' p = some (.lst (v.map V.int)) → Q (.ref p) H') (fun e => ∀ H', Same H H' → E (.ref (excA AD e)) none H')
def sp_Format___init__ (K : PySem.W.Frag) (AD : Ads) : Sp := fun vs H Q E => ∃ (G : Hp) (p_self dx_self : Addr) (width' : Int) (height' : Int) (depth' : Int) (chroma' : Int), vs = [.ref p_self, .int width', .int height', .int depth', .int chroma'] ∧ Same G H ∧ (∀ a ∈ [p_self], G a = none) ∧ H p_self = some (.ins AD.c_Format dx_self []) ∧ cW (F_Format___init__ width' height' depth' chroma') (fun v => ∀ (H' : Hp), SameX p_self H H' → H' p_self = some (.ins AD.c_Format dx_self [("width", V.int v.width), ("height", V.int v.height), ("depth", V.int v.depth), ("chroma", V.int v.chroma)]) → Q .non H') (fun e => ∀ H', SameX p_self H H' → E (.ref (excA AD e)) none H')
def sp__require (K : PySem.W.Frag) (AD : Ads) : Sp := fun vs H Q E => ∃ (G : Hp) (holds' : Bool) (text' : Str), vs = [.bl holds', .str text'] ∧ Same G H ∧ cW (F__require holds' text') (fun v => Q .non H) (fun e => E (.ref (excA AD e)) none H)
def sp_Settings___init__ (K : PySem.W.Frag) (AD : Ads) : Sp := fun vs H Q E => ∃ (G : Hp) (p_self dx_self : Addr) (p_fmt dx_fmt : Addr) (fmt' : St_Format) (slots' : Int) (rows' : Int) (deblock' : Bool) (offset' : Bool) (layers' : Int), vs = [.ref p_self, .ref p_fmt, .int slots', .int rows', .bl deblock', .bl offset', .int layers'] ∧ Same G H ∧ (∀ a ∈ [p_self], G a = none) ∧ H p_self = some (.ins AD.c_Settings dx_self []) ∧ (hideL [p_self] H) p_fmt = some (.ins AD.c_Format dx_fmt [("width", V.int fmt'.width), ("height", V.int fmt'.height), ("depth", V.int fmt'.depth), ("chroma", V.int fmt'.chroma)]) ∧ cW (F_Settings___init__ fmt' slots' rows' deblock' offset' layers') (fun v => ∀ (H' : Hp), SameX p_self H H' → H' p_self = some (.ins AD.c_Settings dx_self [("fmt", V.ref p_fmt), ("slots", V.int v.slots), ("rows", V.int v.rows), ("deblock", V.bl v.deblock), ("offset", V.bl v.offset), ("layers", V.int v.layers)]) → Q .non H') (fun e => ∀ H', SameX p_self H H' → E (.ref (excA AD e)) none H')
def sp__law_settings (K : PySem.W.Frag) (AD : Ads) : Sp := fun vs H Q E => ∃ (G : Hp) (a_n : Addr) (n' : List Int), vs = [.ref a_n] ∧ Same G H ∧ (hideL [] H) a_n = some (.lst ((n' : List Int).map V.int)) ∧ cW (F__law_settings n') (fun v => ∀ (H' : Hp) (p_ret p_ret_fmt dx_ret dx_ret_fmt : Addr), Same H H' → H p_ret = none → H p_ret_fmt = none → p_ret ≠ p_ret_fmt → H' p_ret = some (.ins AD.c_Settings dx_ret [("fmt", V.ref p_ret_fmt), ("slots", V.int v.slots), ("rows", V.int v.rows), ("deblock", V.bl v.deblock), ("offset", V.bl v.offset), ("layers", V.int v.layers)]) → H' p_ret_fmt = some (.ins AD.c_Format dx_ret_fmt [("width", V.int v.fmt.width), ("height", V.int v.fmt.height), ("depth", V.int v.fmt.depth), ("chroma", V.int v.fmt.chroma)]) → Q (.ref p_ret) H') (fun e => ∀ H', Same H H' → E (.ref (excA AD e)) none H')
def sp_Format_blocks (K : PySem.W.Frag) (AD : Ads) : Sp := fun vs H Q E => ∃ (G : Hp) (p_self dx_self : Addr) (self' : St_Format), vs = [.ref p_self] ∧ Same G H ∧ (hideL [] H) p_self = some (.ins AD.c_Format dx_self [("width", V.int self'.width), ("height", V.int self'.height), ("depth", V.int self'.depth), ("chroma", V.int self'.chroma)]) ∧ cW (F_Format_blocks self') (fun v => ∀ u H' G', Same H H' → Same G G' → Same G' H' → (∀ b, H b ≠ none → G b = none → G' b = none) → Rp G' u ((encT2 PyData.int PyData.int) v) → Q u H') (fun e => ∀ H', Same H H' → E (.ref (excA AD e)) none H')
def sp_Settings_slices (K : PySem.W.Frag) (AD : Ads) : Sp := fun vs H Q E => ∃ (G : Hp) (p_self p_self_fmt dx_self dx_self_fmt : Addr) (self' : St_Settings), vs = [.ref p_self] ∧ Same G H ∧ (hideL [] H) p_self = some (.ins AD.c_Settings dx_self [("fmt", V.ref p_self_fmt), ("slots", V.int self'.slots), ("rows", V.int self'.rows), ("deblock", V.bl self'.deblock), ("offset", V.bl self'.offset), ("layers", V.int self'.layers)]) ∧ (hideL [] H) p_self_fmt = some (.ins AD.c_Format dx_self_fmt [("width", V.int self'.fmt.width), ("height", V.int self'.fmt.height), ("depth", V.int self'.fmt.depth), ("chroma", V.int self'.fmt.chroma)]) ∧ cW (F_Settings_slices self') (fun v => ∀ H', Same H H' → Q (.int v) H') (fun e => ∀ H', Same H H' → E (.ref (excA AD e)) none H')
def sp_SliceHeader___init__ (K : PySem.W.Frag) (AD : Ads) : Sp := fun vs H Q E => ∃ (G : Hp) (p_self dx_self : Addr) (p_settings p_settings_fmt dx_settings dx_settings_fmt : Addr) (settings' : St_Settings) (number' : Int) (index' : Int) (delta' : Int), vs = [.ref p_self, .ref p_settings, .int number', .int index', .int delta'] ∧ Same G H ∧ (∀ a ∈ [p_self], G a = none) ∧ H p_self = some (.ins AD.c_SliceHeader dx_self []) ∧ (hideL [p_self] H) p_settings = some (.ins AD.c_Settings dx_settings [("fmt", V.ref p_settings_fmt), ("slots", V.int settings'.slots), ("rows", V.int settings'.rows), ("deblock", V.bl settings'.deblock), ("offset", V.bl settings'.offset), ("layers", V.int settings'.layers)]) ∧ (hideL [p_self] H) p_settings_fmt = some (.ins AD.c_Format dx_settings_fmt [("width", V.int settings'.fmt.width), ("height", V.int settings'.fmt.height), ("depth", V.int settings'.fmt.depth), ("chroma", V.int settings'.fmt.chroma)]) ∧ cW (F_SliceHeader___init__ settings' number' index' delta') (fun v => ∀ (H' : Hp), SameX p_self H H' → H' p_self = some (.ins AD.c_SliceHeader dx_self [("number", V.int v.number), ("index", V.int v.index), ("delta", V.int v.delta)]) → Q .non H') (fun e => ∀ H', SameX p_self H H' → E (.ref (excA AD e)) none H')
def sp_SliceHeader___eq__ (K : PySem.W.Frag) (AD : Ads) : Sp := fun vs H Q E => ∃ (G : Hp) (p_self dx_self : Addr) (self' : St_SliceHeader) (p_other dx_other : Addr) (other' : St_SliceHeader), vs = [.ref p_self, .ref p_other] ∧ Same G H ∧ (hideL [] H) p_self = some (.ins AD.c_SliceHeader dx_self [("number", V.int self'.number), ("index", V.int self'.index), ("delta", V.int self'.delta)]) ∧ (hideL [] H) p_other = some (.ins AD.c_SliceHeader dx_other [("number", V.int other'.number), ("index", V.int other'.index), ("delta", V.int other'.delta)]) ∧ cW (F_SliceHeader___eq__ self' other') (fun v => ∀ H', Same H H' → Q (.bl v) H') (fun e => ∀ H', Same H H' → E (.ref (excA AD e)) none H')
def sp__law_packed (K : PySem.W.Frag) (AD : Ads) : Sp := fun vs H Q E => ∃ (G : Hp) (a_bits : Addr) (bits' : List Int), vs = [.ref a_bits] ∧ Same G H ∧ (hideL [] H) a_bits = some (.lst ((bits' : List Int).map V.int)) ∧ cW (F__law_packed bits') (fun v => ∀ p H', H p = none → Same H H' → H' p = some (.lst (v.map V.int)) → Q (.ref p) H') (fun e => ∀ H', Same H H' → E (.ref (excA AD e)) none H')
def sp_BitWriter___init__ (K : PySem.W.Frag) (AD : Ads) : Sp := fun vs H Q E => ∃ (G : Hp) (p_self dx_self : Addr), vs = [.ref p_self] ∧ Same G H ∧ (∀ a ∈ [p_self], G a = none) ∧ H p_self = some (.ins AD.c_BitWriter dx_self []) ∧ cW (F_BitWriter___init__ ) (fun v => ∀ (H' : Hp) (l_full : Addr), SameX p_self H H' → H l_full = none → H' p_self = some (.ins AD.c_BitWriter dx_self [("_full", V.ref l_full), ("_rest", V.int v.rest), ("_rest_bits", V.int v.bits)]) → H' l_full = some (.lst (v.full.map V.int)) → Q .non H') (fun e => ∀ H', SameX p_self H H' → E (.ref (excA AD e)) none H')
def sp_BitWriter__add (K : PySem.W.Frag) (AD : Ads) : Sp := fun vs H Q E => ∃ (G : Hp) (p_self l_self_full dx_self : Addr) (self' : St_BitWriter) (value' : Int) (count' : Int), vs = [.ref p_self, .int value', .int count'] ∧ Same G H ∧ (∀ a ∈ [p_self, l_self_full], G a = none) ∧ H p_self = some (.ins AD.c_BitWriter dx_self [("_full", V.ref l_self_full), ("_rest", V.int self'.rest), ("_rest_bits", V.int self'.bits)]) ∧ H l_self_full = some (.lst ((self'.full : (List Int)).map V.int)) ∧ cW (F_BitWriter__add self' value' count') (fun v => ∀ (H' : Hp), SameXs [p_self, l_self_full] H H' → H' p_self = some (.ins AD.c_BitWriter dx_self [("_full", V.ref l_self_full), ("_rest", V.int v.rest), ("_rest_bits", V.int v.bits)]) → H' l_self_full = some (.lst ((v.full : (List Int)).map V.int)) → Q .non H') (fun e => ∀ H', Same H H' → E (.ref (excA AD e)) none H')
def sp_BitWriter_put_ue (K : PySem.W.Frag) (AD : Ads) : Sp := fun vs H Q E => ∃ (G : Hp) (p_self l_self_full dx_self : Addr) (self' : St_BitWriter) (value' : Int), vs = [.ref p_self, .int value'] ∧ Same G H ∧ (∀ a ∈ [p_self, l_self_full], G a = none) ∧ H p_self = some (.ins AD.c_BitWriter dx_self [("_full", V.ref l_self_full), ("_rest", V.int self'.rest), ("_rest_bits", V.int self'.bits)]) ∧ H l_self_full = some (.lst ((self'.full : (List Int)).map V.int)) ∧ cW (F_BitWriter_put_ue self' value') (fun v => ∀ (H' : Hp), SameXs [p_self, l_self_full] H H' → H' p_self = some (.ins AD.c_BitWriter dx_self [("_full", V.ref l_self_full), ("_rest", V.int v.rest), ("_rest_bits", V.int v.bits)]) → H' l_self_full = some (.lst ((v.full : (List Int)).map V.int)) → Q .non H') (fun e => ∀ H', Same H H' → E (.ref (excA AD e)) none H')
def sp_BitWriter_put_se (K : PySem.W.Frag) (AD : Ads) : Sp := fun vs H Q E => ∃ (G : Hp) (p_self l_self_full dx_self : Addr) (self' : St_BitWriter) (value' : Int), vs = [.ref p_self, .int value'] ∧ Same G H ∧ (∀ a ∈ [p_self, l_self_full], G a = none) ∧ H p_self = some (.ins AD.c_BitWriter dx_self [("_full", V.ref l_self_full), ("_rest", V.int self'.rest), ("_rest_bits", V.int self'.bits)]) ∧ H l_self_full = some (.lst ((self'.full : (List Int)).map V.int)) ∧ cW (F_BitWriter_put_se self' value') (fun v => ∀ (H' : Hp), SameXs [p_self, l_self_full] H H' → H' p_self = some (.ins AD.c_BitWriter dx_self [("_full", V.ref l_self_full), ("_rest", V.int v.rest), ("_rest_bits", V.int v.bits)]) → H' l_self_full = some (.lst ((v.full : (List Int)).map V.int)) → Q .non H') (fun e => ∀ H', Same H H' → E (.ref (excA AD e)) none H')
def sp_BitWriter_octets (K : PySem.W.Frag) (AD : Ads) : Sp := fun vs H Q E => ∃ (G : Hp) (p_self l_self_full dx_self : Addr) (self' : St_BitWriter), vs = [.ref p_self] ∧ Same G H ∧ (hideL [] H) p_self = some (.ins AD.c_BitWriter dx_self [("_full", V.ref l_self_full), ("_rest", V.int self'.rest), ("_rest_bits", V.int self'.bits)]) ∧ (hideL [] H) l_self_full = some (.lst ((self'.full : (List Int)).map V.int)) ∧ cW (F_BitWriter_octets self') (fun v => ∀ p H', H p = none → Same H H' → H' p = some (.lst (v.map V.int)) → Q (.ref p) H') (fun e => ∀ H', Same H H' → E (.ref (excA AD e)) none H')
def sp_write_slice (K : PySem.W.Frag) (AD : Ads) : Sp := fun vs H Q E => ∃ (G : Hp) (p_settings p_settings_fmt dx_settings dx_settings_fmt : Addr) (settings' : St_Settings) (p_header dx_header : Addr) (header' : St_SliceHeader) (a_code : Addr) (code' : List Int), vs = [.ref p_settings, .ref p_header, .ref a_code] ∧ Same G H ∧ (hideL [] H) p_settings = some (.ins AD.c_Settings dx_settings [("fmt", V.ref p_settings_fmt), ("slots", V.int settings'.slots), ("rows", V.int settings'.rows), ("deblock", V.bl settings'.deblock), ("offset", V.bl settings'.offset), ("layers", V.int settings'.layers)]) ∧ (hideL [] H) p_settings_fmt = some (.ins AD.c_Format dx_settings_fmt [("width", V.int settings'.fmt.width), ("height", V.int settings'.fmt.height), ("depth", V.int settings'.fmt.depth), ("chroma", V.int settings'.fmt.chroma)]) ∧ (hideL [] H) p_header = some (.ins AD.c_SliceHeader dx_header [("number", V.int header'.number), ("index", V.int header'.index), ("delta", V.int header'.delta)]) ∧ (hideL [] H) a_code = some (.lst ((code' : List Int).map V.int)) ∧ cW (F_write_slice settings' header' code') (fun v => ∀ p H', H p = none → Same H H' → H' p = some (.lst (v.map V.int)) → Q (.ref p) H') (fun e => ∀ H', Same H H' → E (.ref (excA AD e)) none H')
def sp__last_bit (K : PySem.W.Frag) (AD : Ads) : Sp := fun vs H Q E => ∃ (G : Hp) (octet' : Int), vs = [.int octet'] ∧ Same G H ∧ cW (F__last_bit octet') (fun v => ∀ H', Same H H' → Q (.int v) H') (fun e => ∀ H', Same H H' → E (.ref (excA AD e)) none H')
def sp_BitReader___init__ (K : PySem.W.Frag) (AD : Ads) : Sp := fun vs H Q E => ∃ (G : Hp) (p_self dx_self : Addr) (a_octets : Addr) (octets' : List Int), vs = [.ref p_self, .ref a_octets] ∧ Same G H ∧ (∀ a ∈ [p_self], G a = none) ∧ H p_self = some (.ins AD.c_BitReader dx_self []) ∧ (hideL [p_self] H) a_octets = some (.lst ((octets' : List Int).map V.int)) ∧ cW (F_BitReader___init__ octets') (fun v => ∀ (H' : Hp) (l_octs : Addr), SameX p_self H H' → H l_octs = none → H' p_self = some (.ins AD.c_BitReader dx_self [("_octets", V.ref l_octs), ("_place", V.int v.place), ("_end", V.int v.stop)]) → H' l_octs = some (.lst (v.octs.map V.int)) → Q .non H') (fun e => ∀ H', SameX p_self H H' → E (.ref (excA AD e)) none H')
def sp_BitReader__look (K : PySem.W.Frag) (AD : Ads) : Sp := fun vs H Q E => ∃ (G : Hp) (p_self l_self_octs dx_self : Addr) (self' : St_BitReader) (place' : Int) (count' : Int), vs = [.ref p_self, .int place', .int count'] ∧ Same G H ∧ (hideL [] H) p_self = some (.ins AD.c_BitReader dx_self [("_octets", V.ref l_self_octs), ("_place", V.int self'.place), ("_end", V.int self'.stop)]) ∧ (hideL [] H) l_self_octs = some (.lst ((self'.octs : (List Int)).map V.int)) ∧ cW (F_BitReader__look self' place' count') (fun v => ∀ H', Same H H' → Q (.int v) H') (fun e => ∀ H', Same H H' → E (.ref (excA AD e)) none H')
def sp_BitReader__zeros (K : PySem.W.Frag) (AD : Ads) : Sp := fun vs H Q E => ∃ (G : Hp) (p_self l_self_octs dx_self : Addr) (self' : St_BitReader), vs = [.ref p_self] ∧ Same G H ∧ (hideL [] H) p_self = some (.ins AD.c_BitReader dx_self [("_octets", V.ref l_self_octs), ("_place", V.int self'.place), ("_end", V.int self'.stop)]) ∧ (hideL [] H) l_self_octs = some (.lst ((self'.octs : (List Int)).map V.int)) ∧ cW (F_BitReader__zeros self') (fun v => ∀ H', Same H H' → Q (.int v) H') (fun e => ∀ H', Same H H' → E (.ref (excA AD e)) none H')
def sp_BitReader__take (K : PySem.W.Frag) (AD : Ads) : Sp := fun vs H Q E => ∃ (G : Hp) (p_self l_self_octs dx_self : Addr) (self' : St_BitReader) (count' : Int), vs = [.ref p_self, .int count'] ∧ Same G H ∧ (∀ a ∈ [p_self, l_self_octs], G a = none) ∧ H p_self = some (.ins AD.c_BitReader dx_self [("_octets", V.ref l_self_octs), ("_place", V.int self'.place), ("_end", V.int self'.stop)]) ∧ H l_self_octs = some (.lst ((self'.octs : (List Int)).map V.int)) ∧ cW (F_BitReader__take self' count') (fun v => ∀ (H' : Hp), SameXs [p_self, l_self_octs] H H' → H' p_self = some (.ins AD.c_BitReader dx_self [("_octets", V.ref l_self_octs), ("_place", V.int v.2.place), ("_end", V.int v.2.stop)]) → H' l_self_octs = some (.lst ((v.2.octs : (List Int)).map V.int)) → Q (.int v.1) H') (fun e => ∀ H', Same H H' → E (.ref (excA AD e)) none H')
def sp_BitReader_get_ue (K : PySem.W.Frag) (AD : Ads) : Sp := fun vs H Q E => ∃ (G : Hp) (p_self l_self_octs dx_self : Addr) (self' : St_BitReader), vs = [.ref p_self] ∧ Same G H ∧ (∀ a ∈ [p_self, l_self_octs], G a = none) ∧ H p_self = some (.ins AD.c_BitReader dx_self [("_octets", V.ref l_self_octs), ("_place", V.int self'.place), ("_end", V.int self'.stop)]) ∧ H l_self_octs = some (.lst ((self'.octs : (List Int)).map V.int)) ∧ cW (F_BitReader_get_ue self') (fun v => ∀ (H' : Hp), SameXs [p_self, l_self_octs] H H' → H' p_self = some (.ins AD.c_BitReader dx_self [("_octets", V.ref l_self_octs), ("_place", V.int v.2.place), ("_end", V.int v.2.stop)]) → H' l_self_octs = some (.lst ((v.2.octs : (List Int)).map V.int)) → Q (.int v.1) H') (fun e => ∀ H', Same H H' → E (.ref (excA AD e)) none H')
def sp_BitReader_get_se (K : PySem.W.Frag) (AD : Ads) : Sp := fun vs H Q E => ∃ (G : Hp) (p_self l_self_octs dx_self : Addr) (self' : St_BitReader), vs = [.ref p_self] ∧ Same G H ∧ (∀ a ∈ [p_self, l_self_octs], G a = none) ∧ H p_self = some (.ins AD.c_BitReader dx_self [("_octets", V.ref l_self_octs), ("_place", V.int self'.place), ("_end", V.int self'.stop)]) ∧ H l_self_octs = some (.lst ((self'.octs : (List Int)).map V.int)) ∧ cW (F_BitReader_get_se self') (fun v => ∀ (H' : Hp), SameXs [p_self, l_self_octs] H H' → H' p_self = some (.ins AD.c_BitReader dx_self [("_octets", V.ref l_self_octs), ("_place", V.int v.2.place), ("_end", V.int v.2.stop)]) → H' l_self_octs = some (.lst ((v.2.octs : (List Int)).map V.int)) → Q (.int v.1) H') (fun e => ∀ H', Same H H' → E (.ref (excA AD e)) none H')
def sp__get_slice (K : PySem.W.Frag) (AD : Ads) : Sp := fun vs H Q E => ∃ (G : Hp) (p_settings p_settings_fmt dx_settings dx_settings_fmt : Addr) (settings' : St_Settings) (p_reader l_reader_octs dx_reader : Addr) (reader' : St_BitReader), vs = [.ref p_settings, .ref p_reader] ∧ Same G H ∧ (∀ a ∈ [p_reader, l_reader_octs], G a = none) ∧ (hideL [p_reader, l_reader_octs] H) p_settings = some (.ins AD.c_Settings dx_settings [("fmt", V.ref p_settings_fmt), ("slots", V.int settings'.slots), ("rows", V.int settings'.rows), ("deblock", V.bl settings'.deblock), ("offset", V.bl settings'.offset), ("layers", V.int settings'.layers)]) ∧ (hideL [p_reader, l_reader_octs] H) p_settings_fmt = some (.ins AD.c_Format dx_settings_fmt [("width", V.int settings'.fmt.width), ("height", V.int settings'.fmt.height), ("depth", V.int settings'.fmt.depth), ("chroma", V.int settings'.fmt.chroma)]) ∧ H p_reader = some (.ins AD.c_BitReader dx_reader [("_octets", V.ref l_reader_octs), ("_place", V.int reader'.place), ("_end", V.int reader'.stop)]) ∧ H l_reader_octs = some (.lst ((reader'.octs : (List Int)).map V.int)) ∧ cW (F__get_slice settings' reader') (fun v => ∀ (H' : Hp), SameXs [p_reader, l_reader_octs] H H' → H' p_reader = some (.ins AD.c_BitReader dx_reader [("_octets", V.ref l_reader_octs), ("_place", V.int v.2.place), ("_end", V.int v.2.stop)]) → H' l_reader_octs = some (.lst ((v.2.octs : (List Int)).map V.int)) → ∀ (p_ret dx_ret : Addr), H p_ret = none → H' p_ret = some (.ins AD.c_SliceHeader dx_ret [("number", V.int v.1.number), ("index", V.int v.1.index), ("delta", V.int v.1.delta)]) → Q (.ref p_ret) H') (fun e => ∀ H', Same H H' → E (.ref (excA AD e)) none H')
def sp_BitReader_left (K : PySem.W.Frag) (AD : Ads) : Sp := fun vs H Q E => ∃ (G : Hp) (p_self l_self_octs dx_self : Addr) (self' : St_BitReader), vs = [.ref p_self] ∧ Same G H ∧ (hideL [] H) p_self = some (.ins AD.c_BitReader dx_self [("_octets", V.ref l_self_octs), ("_place", V.int self'.place), ("_end", V.int self'.stop)]) ∧ (hideL [] H) l_self_octs = some (.lst ((self'.octs : (List Int)).map V.int)) ∧ cW (F_BitReader_left self') (fun v => ∀ H', Same H H' → Q (.int v) H') (fun e => ∀ H', Same H H' → E (.ref (excA AD e)) none H')
def sp_read_slice (K : PySem.W.Frag) (AD : Ads) : Sp := fun vs H Q E => ∃ (G : Hp) (p_settings p_settings_fmt dx_settings dx_settings_fmt : Addr) (settings' : St_Settings) (a_payload : Addr) (payload' : List Int), vs = [.ref p_settings, .ref a_payload] ∧ Same G H ∧ (hideL [] H) p_settings = some (.ins AD.c_Settings dx_settings [("fmt", V.ref p_settings_fmt), ("slots", V.int settings'.slots), ("rows", V.int settings'.rows), ("deblock", V.bl settings'.deblock), ("offset", V.bl settings'.offset), ("layers", V.int settings'.layers)]) ∧ (hideL [] H) p_settings_fmt = some (.ins AD.c_Format dx_settings_fmt [("width", V.int settings'.fmt.width), ("height", V.int settings'.fmt.height), ("depth", V.int settings'.fmt.depth), ("chroma", V.int settings'.fmt.chroma)]) ∧ (hideL [] H) a_payload = some (.lst ((payload' : List Int).map V.int)) ∧ cW (F_read_slice settings' payload') (fun v => ∀ (H' : Hp) (t_ p_r0 l_1 dx_r0 : Addr), Same H H' → H t_ = none → H p_r0 = none → H l_1 = none → H' t_ = some (.tup [V.ref p_r0, V.ref l_1]) → H' p_r0 = some (.ins AD.c_SliceHeader dx_r0 [("number", V.int v.1.number), ("index", V.int v.1.index), ("delta", V.int v.1.delta)]) → H' l_1 = some (.lst (v.2.map V.int)) → Q (.ref t_) H') (fun e => ∀ H', Same H H' → E (.ref (excA AD e)) none H')
def sp__law_picture (K : PySem.W.Frag) (AD : Ads) : Sp := fun vs H Q E => ∃ (G : Hp) (cell' : Int) (a_n : Addr) (n' : List Int), vs = [.int cell', .ref a_n] ∧ Same G H ∧ (hideL [] H) a_n = some (.lst ((n' : List Int).map V.int)) ∧ cW (F__law_picture cell' n') (fun v => ∀ u H' G', Same H H' → Same G G' → Same G' H' → (∀ b, H b ≠ none → G b = none → G' b = none) → Rp G' u ((encL encD) v) → Q u H') (fun e => ∀ H', Same H H' → E (.ref (excA AD e)) none H')
def sp__law_cell (K : PySem.W.Frag) (AD : Ads) : Sp := fun vs H Q E => ∃ (G : Hp) (a_script : Addr) (script' : List Int) (k' : Int), vs = [.ref a_script, .int k'] ∧ Same G H ∧ SqL K H a_script ((script' : List Int).map V.int) ∧ cW (F__law_cell script' k') (fun v => Q (.int v) H) (fun e => E (.ref (excA AD e)) none H)
def sp_escape (K : PySem.W.Frag) (AD : Ads) : Sp := fun vs H Q E => ∃ (G : Hp) (a_octets : Addr) (octets' : List Int), vs = [.ref a_octets] ∧ Same G H ∧ (hideL [] H) a_octets = some (.lst ((octets' : List Int).map V.int)) ∧ cW (F_escape octets') (fun v => ∀ p H', H p = none → Same H H' → H' p = some (.lst (v.map V.int)) → Q (.ref p) H') (fun e => ∀ H', Same H H' → E (.ref (excA AD e)) none H')
def sp_write_unit (K : PySem.W.Frag) (AD : Ads) : Sp := fun vs H Q E => ∃ (G : Hp) (kind' : Int) (a_payload : Addr) (payload' : List Int), vs = [.int kind', .ref a_payload] ∧ Same G H ∧ (hideL [] H) a_payload = some (.lst ((payload' : List Int).map V.int)) ∧ cW (F_write_unit kind' payload') (fun v => ∀ p H', H p = none → Same H H' → H' p = some (.lst (v.map V.int)) → Q (.ref p) H') (fun e => ∀ H', Same H H' → E (.ref (excA AD e)) none H')
def sp__law_long (K : PySem.W.Frag) (AD : Ads) : Sp := fun vs H Q E => ∃ (G : Hp) (p_settings p_settings_fmt dx_settings dx_settings_fmt : Addr) (settings' : St_Settings) (p_header dx_header : Addr) (header' : St_SliceHeader) (a_head : Addr) (head' : List Int) (cell' : Int), vs = [.ref p_settings, .ref p_header, .ref a_head, .int cell'] ∧ Same G H ∧ (hideL [] H) p_settings = some (.ins AD.c_Settings dx_settings [("fmt", V.ref p_settings_fmt), ("slots", V.int settings'.slots), ("rows", V.int settings'.rows), ("deblock", V.bl settings'.deblock), ("offset", V.bl settings'.offset), ("layers", V.int settings'.layers)]) ∧ (hideL [] H) p_settings_fmt = some (.ins AD.c_Format dx_settings_fmt [("width", V.int settings'.fmt.width), ("height", V.int settings'.fmt.height), ("depth", V.int settings'.fmt.depth), ("chroma", V.int settings'.fmt.chroma)]) ∧ (hideL [] H) p_header = some (.ins AD.c_SliceHeader dx_header [("number", V.int header'.number), ("index", V.int header'.index), ("delta", V.int header'.delta)]) ∧ (hideL [] H) a_head = some (.lst ((head' : List Int).map V.int)) ∧ cW (F__law_long settings' header' head' cell') (fun v => ∀ H', Same H H' → Q (.bl v) H') (fun e => ∀ H', Same H H' → E (.ref (excA AD e)) none H')
def sp_clip (K : PySem.W.Frag) (AD : Ads) : Sp := fun vs H Q E => ∃ (G : Hp) (value' : Int) (low' : Int) (high' : Int), vs = [.int value', .int low', .int high'] ∧ Same G H ∧ cW (F_clip value' low' high') (fun v => Q (.int v) H) (fun e => E (.ref (excA AD e)) none H)
def sp_level_with (K : PySem.W.Frag) (AD : Ads) : Sp := fun vs H Q E => ∃ (G : Hp) (p_picture_header l_picture_header_store l_picture_header_refs dx_picture_header : Addr) (picture_header' : St_PictureHeader) (delta' : Int), vs = [.ref p_picture_header, .int delta'] ∧ Same G H ∧ (hideL [] H) p_picture_header = some (.ins AD.c_PictureHeader dx_picture_header [("number", V.int picture_header'.number), ("kind", V.str picture_header'.kind), ("level", V.int picture_header'.level), ("store", V.ref l_picture_header_store), ("refs", V.ref l_picture_header_refs), ("weight", V.int picture_header'.weight), ("layer", V.int picture_header'.layer), ("shown", V.bl picture_header'.shown), ("edge", V.int picture_header'.edge)]) ∧ (hideL [] H) l_picture_header_store = some (.lst ((picture_header'.store : (List Int)).map V.int)) ∧ (hideL [] H) l_picture_header_refs = some (.lst ((picture_header'.refs : (List Int)).map V.int)) ∧ cW (F_level_with picture_header' delta') (fun v => ∀ H', Same H H' → Q (.int v) H') (fun e => ∀ H', Same H H' → E (.ref (excA AD e)) none H')
def sp_slice_level (K : PySem.W.Frag) (AD : Ads) : Sp := fun vs H Q E => ∃ (G : Hp) (p_picture_header l_picture_header_store l_picture_header_refs dx_picture_header : Addr) (picture_header' : St_PictureHeader) (p_slice_header dx_slice_header : Addr) (slice_header' : St_SliceHeader), vs = [.ref p_picture_header, .ref p_slice_header] ∧ Same G H ∧ (hideL [] H) p_picture_header = some (.ins AD.c_PictureHeader dx_picture_header [("number", V.int picture_header'.number), ("kind", V.str picture_header'.kind), ("level", V.int picture_header'.level), ("store", V.ref l_picture_header_store), ("refs", V.ref l_picture_header_refs), ("weight", V.int picture_header'.weight), ("layer", V.int picture_header'.layer), ("shown", V.bl picture_header'.shown), ("edge", V.int picture_header'.edge)]) ∧ (hideL [] H) l_picture_header_store = some (.lst ((picture_header'.store : (List Int)).map V.int)) ∧ (hideL [] H) l_picture_header_refs = some (.lst ((picture_header'.refs : (List Int)).map V.int)) ∧ (hideL [] H) p_slice_header = some (.ins AD.c_SliceHeader dx_slice_header [("number", V.int slice_header'.number), ("index", V.int slice_header'.index), ("delta", V.int slice_header'.delta)]) ∧ cW (F_slice_level picture_header' slice_header') (fun v => ∀ H', Same H H' → Q (.int v) H') (fun e => ∀ H', Same H H' → E (.ref (excA AD e)) none H')
def sp__law_bits (K : PySem.W.Frag) (AD : Ads) : Sp := fun vs H Q E => ∃ (G : Hp) (value' : Int) (count' : Int), vs = [.int value', .int count'] ∧ Same G H ∧ cW (F__law_bits value' count') (fun v => ∀ p H', H p = none → Same H H' → H' p = some (.lst (v.map V.int)) → Q (.ref p) H') (fun e => ∀ H', Same H H' → E (.ref (excA AD e)) none H')
def sp__law_ue (K : PySem.W.Frag) (AD : Ads) : Sp := fun vs H Q E => ∃ (G : Hp) (value' : Int), vs = [.int value'] ∧ Same G H ∧ cW (F__law_ue value') (fun v => ∀ p H', H p = none → Same H H' → H' p = some (.lst (v.map V.int)) → Q (.ref p) H') (fun e => ∀ H', Same H H' → E (.ref (excA AD e)) none H')
def sp__law_se (K : PySem.W.Frag) (AD : Ads) : Sp := fun vs H Q E => ∃ (G : Hp) (value' : Int), vs = [.int value'] ∧ Same G H ∧ cW (F__law_se value') (fun v => ∀ p H', H p = none → Same H H' → H' p = some (.lst (v.map V.int)) → Q (.ref p) H') (fun e => ∀ H', Same H H' → E (.ref (excA AD e)) none H')
def sp__check_numbers (K : PySem.W.Frag) (AD : Ads) : Sp := fun vs H Q E => ∃ (G : Hp) (p_settings p_settings_fmt dx_settings dx_settings_fmt : Addr) (settings' : St_Settings) (p_header l_header_store l_header_refs dx_header : Addr) (header' : St_PictureHeader), vs = [.ref p_settings, .ref p_header] ∧ Same G H ∧ (hideL [] H) p_settings = some (.ins AD.c_Settings dx_settings [("fmt", V.ref p_settings_fmt), ("slots", V.int settings'.slots), ("rows", V.int settings'.rows), ("deblock", V.bl settings'.deblock), ("offset", V.bl settings'.offset), ("layers", V.int settings'.layers)]) ∧ (hideL [] H) p_settings_fmt = some (.ins AD.c_Format dx_settings_fmt [("width", V.int settings'.fmt.width), ("height", V.int settings'.fmt.height), ("depth", V.int settings'.fmt.depth), ("chroma", V.int settings'.fmt.chroma)]) ∧ (hideL [] H) p_header = some (.ins AD.c_PictureHeader dx_header [("number", V.int header'.number), ("kind", V.str header'.kind), ("level", V.int header'.level), ("store", V.ref l_header_store), ("refs", V.ref l_header_refs), ("weight", V.int header'.weight), ("layer", V.int header'.layer), ("shown", V.bl header'.shown), ("edge", V.int header'.edge)]) ∧ (hideL [] H) l_header_store = some (.lst ((header'.store : (List Int)).map V.int)) ∧ (hideL [] H) l_header_refs = some (.lst ((header'.refs : (List Int)).map V.int)) ∧ cW (F__check_numbers settings' header') (fun v => ∀ H', Same H H' → Q .non H') (fun e => ∀ H', Same H H' → E (.ref (excA AD e)) none H')
def sp__check_slots (K : PySem.W.Frag) (AD : Ads) : Sp := fun vs H Q E => ∃ (G : Hp) (p_settings p_settings_fmt dx_settings dx_settings_fmt : Addr) (settings' : St_Settings) (p_header l_header_store l_header_refs dx_header : Addr) (header' : St_PictureHeader), vs = [.ref p_settings, .ref p_header] ∧ Same G H ∧ (hideL [] H) p_settings = some (.ins AD.c_Settings dx_settings [("fmt", V.ref p_settings_fmt), ("slots", V.int settings'.slots), ("rows", V.int settings'.rows), ("deblock", V.bl settings'.deblock), ("offset", V.bl settings'.offset), ("layers", V.int settings'.layers)]) ∧ (hideL [] H) p_settings_fmt = some (.ins AD.c_Format dx_settings_fmt [("width", V.int settings'.fmt.width), ("height", V.int settings'.fmt.height), ("depth", V.int settings'.fmt.depth), ("chroma", V.int settings'.fmt.chroma)]) ∧ (hideL [] H) p_header = some (.ins AD.c_PictureHeader dx_header [("number", V.int header'.number), ("kind", V.str header'.kind), ("level", V.int header'.level), ("store", V.ref l_header_store), ("refs", V.ref l_header_refs), ("weight", V.int header'.weight), ("layer", V.int header'.layer), ("shown", V.bl header'.shown), ("edge", V.int header'.edge)]) ∧ (hideL [] H) l_header_store = some (.lst ((header'.store : (List Int)).map V.int)) ∧ (hideL [] H) l_header_refs = some (.lst ((header'.refs : (List Int)).map V.int)) ∧ cW (F__check_slots settings' header') (fun v => ∀ H', Same H H' → Q .non H') (fun e => ∀ H', Same H H' → E (.ref (excA AD e)) none H')
def sp_PictureHeader___init__ (K : PySem.W.Frag) (AD : Ads) : Sp := fun vs H Q E => ∃ (G : Hp) (p_self dx_self : Addr) (p_settings p_settings_fmt dx_settings dx_settings_fmt : Addr) (settings' : St_Settings) (number' : Int) (kind' : Str) (level' : Int) (v_store : V) (store' : (List Int)) (v_refs : V) (refs' : (List Int)) (weight' : Int) (layer' : Int) (shown' : Bool) (edge' : Int), vs = [.ref p_self, .ref p_settings, .int number', .str kind', .int level', v_store, v_refs, .int weight', .int layer', .bl shown', .int edge'] ∧ Same G H ∧ (∀ a ∈ [p_self], G a = none) ∧ H p_self = some (.ins AD.c_PictureHeader dx_self []) ∧ (hideL [p_self] H) p_settings = some (.ins AD.c_Settings dx_settings [("fmt", V.ref p_settings_fmt), ("slots", V.int settings'.slots), ("rows", V.int settings'.rows), ("deblock", V.bl settings'.deblock), ("offset", V.bl settings'.offset), ("layers", V.int settings'.layers)]) ∧ (hideL [p_self] H) p_settings_fmt = some (.ins AD.c_Format dx_settings_fmt [("width", V.int settings'.fmt.width), ("height", V.int settings'.fmt.height), ("depth", V.int settings'.fmt.depth), ("chroma", V.int settings'.fmt.chroma)]) ∧ SeqI K (hideL [p_self] H) v_store store' ∧ SeqI K (hideL [p_self] H) v_refs refs' ∧ cW (F_PictureHeader___init__ settings' number' kind' level' store' refs' weight' layer' shown' edge') (fun v => ∀ (H' : Hp) (l_store l_refs : Addr), SameX p_self H H' → H l_store = none → H l_refs = none → l_store ≠ l_refs → H' p_self = some (.ins AD.c_PictureHeader dx_self [("number", V.int v.number), ("kind", V.str v.kind), ("level", V.int v.level), ("store", V.ref l_store), ("refs", V.ref l_refs), ("weight", V.int v.weight), ("layer", V.int v.layer), ("shown", V.bl v.shown), ("edge", V.int v.edge)]) → H' l_store = some (.lst (v.store.map V.int)) → H' l_refs = some (.lst (v.refs.map V.int)) → Q .non H') (fun e => ∀ H', SameX p_self H H' → E (.ref (excA AD e)) none H')
def sp__law_header (K : PySem.W.Frag) (AD : Ads) : Sp := fun vs H Q E => ∃ (G : Hp) (p_settings p_settings_fmt dx_settings dx_settings_fmt : Addr) (settings' : St_Settings) (v_p : V) (p' : (List PyData)), vs = [.ref p_settings, v_p] ∧ Same G H ∧ (hideL [] H) p_settings = some (.ins AD.c_Settings dx_settings [("fmt", V.ref p_settings_fmt), ("slots", V.int settings'.slots), ("rows", V.int settings'.rows), ("deblock", V.bl settings'.deblock), ("offset", V.bl settings'.offset), ("layers", V.int settings'.layers)]) ∧ (hideL [] H) p_settings_fmt = some (.ins AD.c_Format dx_settings_fmt [("width", V.int settings'.fmt.width), ("height", V.int settings'.fmt.height), ("depth", V.int settings'.fmt.depth), ("chroma", V.int settings'.fmt.chroma)]) ∧ Rp (hideL [] H) v_p ((encL encD) p') ∧ cW (F__law_header settings' p') (fun v => ∀ (H' : Hp) (p_ret l_ret_store l_ret_refs dx_ret : Addr), Same H H' → H p_ret = none → H l_ret_store = none → H l_ret_refs = none → l_ret_store ≠ l_ret_refs → H' p_ret = some (.ins AD.c_PictureHeader dx_ret [("number", V.int v.number), ("kind", V.str v.kind), ("level", V.int v.level), ("store", V.ref l_ret_store), ("refs", V.ref l_ret_refs), ("weight", V.int v.weight), ("layer", V.int v.layer), ("shown", V.bl v.shown), ("edge", V.int v.edge)]) → H' l_ret_store = some (.lst ((v.store : (List Int)).map V.int)) → H' l_ret_refs = some (.lst ((v.refs : (List Int)).map V.int)) → Q (.ref p_ret) H') (fun e => ∀ H', Same H H' → E (.ref (excA AD e)) none H')
def sp_law (K : PySem.W.Frag) (AD : Ads) : Sp := fun vs H Q E => ∃ (a_script : Addr) (script : List Int), vs = [.ref a_script] ∧ SqL K H a_script (script.map V.int) ∧ cW (F_law script) (fun v => v = true) (fun _ => False) ∧ ∀ H', Q (.bl true) H'
section
variable {P : Program} {w : World} {K : PySem.W.Frag} {mg : Str → Option Value} {base : Heap} {AD : Ads}
abbrev N__law_draws : List Str := ["cell", "limits", "found", "rest", "state", "free", "limit"]
theorem sc__law_draws : FnScope N__law_draws ["cell", "limits"] (defScope s__law_draws) := ⟨rfl, rfl, rfl, by decide +kernel, rfl, by decide +kernel, by decide +kernel⟩
theorem ok__law_draws (D : DefX K mg "_law_draws" s__law_draws ["cell", "limits"] pats__law_draws) (T : Txt w K mg AD)  : CalX P w K mg base 1 "_law_draws" (sp__law_draws K AD) pats__law_draws := by
  refine D.ok sc__law_draws (fun vs H Q E h => ?_) (fun f cdv A_ outer s H vs Q E hr h => ?_)
  · obtain ⟨G, cell', a_limits, limits', rfl, _⟩ := h
    rfl
  · obtain ⟨G, cell', a_limits, limits', rfl, sG, q_limits, hw⟩ := h
    refine ⟨_, (pss_cons (ps_set (i := 2) sc__law_draws.nd rfl (Or.inl rfl) (pe_lst pa_nil))
      (pss_cons (ps_set (i := 3) sc__law_draws.nd rfl (Or.inl rfl) (pe_callB call_abs (by rfl) T.b_abs (by decide +kernel) (pa_cons (pe_callTy call_int1 (by rfl) T.b_int (by decide +kernel) (pa_cons (pv 0) pa_nil)) pa_nil)))
      (pss_cons (ps_set (i := 4) sc__law_draws.nd rfl (Or.inl rfl) (pe_op op_mod (pe_callTy call_int1 (by rfl) T.b_int (by decide +kernel) (pa_cons (pv 3) pa_nil)) pe_int))
      (pss_cons (ps_set (i := 5) sc__law_draws.nd rfl (Or.inl rfl) (pe_or (pe_cmp (pc_lt (pv 0) pe_int)) (pe_one (pe_cmp (pc_ge (pv 0) (pe_op op_pow pe_int pe_int))))))
      (pss_cons (ps_for (passes_of rfl) rfl (pi_listK (K := K) (pv 1)) (pg_name (i := 6) sc__law_draws.nd rfl (Or.inl rfl)) (pss_one (ps_if (PW.pt (pw_and (pt_val (pv 5)) (pw_and1 (pt_cmp (pc_gt (pv 3) pe_int))))) (pss_cons (ps_expr (pe_bm PySem.F.plainAttrs_list PySem.F.slot_list_append PySem.F.type_list_append mt_append (pv 2) (pa_cons (pe_op op_mod (pe_callTy call_int1 (by rfl) T.b_int (by decide +kernel) (pa_cons (pv 3) pa_nil)) (pv 6)) pa_nil)))
      (pss_one (ps_set (i := 3) sc__law_draws.nd rfl (Or.inl rfl) (pe_op op_fdivW (pv 3) (pv 6))))) (pss_cons (ps_set (i := 4) sc__law_draws.nd rfl (Or.inl rfl) (pe_op op_mod (pe_callTy call_int1 (by rfl) T.b_int (by decide +kernel) (pa_cons (pe_op op_add (pe_op op_mul (pv 4) pe_int) pe_int) pa_nil)) pe_int))
      (pss_cons (ps_set (i := 4) sc__law_draws.nd rfl (Or.inl rfl) (pe_op op_mod (pe_callTy call_int1 (by rfl) T.b_int (by decide +kernel) (pa_cons (pe_op op_add (pe_op op_mul (pv 4) pe_int) pe_int) pa_nil)) pe_int))
      (pss_one (ps_expr (pe_bm PySem.F.plainAttrs_list PySem.F.slot_list_append PySem.F.type_list_append mt_append (pv 2) (pa_cons (pe_op op_mod (pe_callTy call_int1 (by rfl) T.b_int (by decide +kernel) (pa_cons (pe_op op_fdivW (pv 4) pe_int) pa_nil)) (pv 6)) pa_nil)))))))))
      (pss_one (ps_ret (pv 2)))))))), ?_⟩
    obtain ⟨KK, EE, hK0, hE, hw⟩ := cW_gen hw
    have S0 := Sep.startG sG
    unfold F__law_draws at hw
    refine ⟨(by show 0 ≤ sizeLine; decide), fun p1 n2 => ?_⟩
    generalize g3 : upd H p1 _ = H4
    obtain ⟨e5, h6⟩ := gen_new n2 g3
    have h7 : H4 p1 = some (.lst ((([] : (List Int)) : (List Int)).map V.int)) := h6
    have fr8 := S0.free n2
    have S9 := S0.new n2 e5 h7 fr8
    refine ⟨_, rfl, .inl ⟨_, rfl, ?_⟩⟩
    refine ⟨_, rfl, ?_⟩
    have hw := cW_bnd hw
    refine ⟨_, rfl, .inl ⟨_, rfl, ?_⟩⟩
    refine ⟨_, _, rfl, rfl, (show (0 : Int) < 2147483647 by decide), ?_⟩
    have hw := cW_bnd hw
    refine vv_or (ta := (tLt (tVar 0) (tC (V.int 0)))) (tb := (tGe (tVar 0) (tOp (rI CPow fun i j => V.int (i ^ j.toNat)) (tC (V.int 10)) (tC (V.int 18))))) (a := decide (cell' < 0)) (b := decide (((10 : Int) ^ Int.toNat 18) ≤ cell')) ?ha12 ?hb13 _ ?_
    case ha12 => exact (vv_cmp (val_var rfl) val_c (fun Q q => ⟨_, _, rfl, rfl, q⟩))
    case hb13 => exact (vv_cmp (val_var rfl) (val_op val_c val_c (fun Q q => ⟨_, _, rfl, rfl, ⟨by decide, by decide, by decide⟩, q⟩)) (fun Q q => ⟨_, _, rfl, rfl, q⟩))
    have hw := cW_bnd hw
    obtain ⟨K16, hK17, hw⟩ := cW_push hw
    refine ⟨_, rfl, _, rfl, ⟨_, (SqL.of (S9.bM _ _ q_limits))⟩, for_list (K := K) (a := a_limits) (xs := (limits' : List Int).map V.int) (fun i σ H' => ∃ (found_18 : (List Int)) (rest_19 : Int) (state_20 : Int) (u21 : Option V) (G' : Hp), σ = [some (V.int (cell')), some (V.ref a_limits), some (V.ref p1), some (V.int rest_19), some (V.int state_20), some (V.bl ((decide (cell' < 0) || decide (((10 : Int) ^ Int.toNat 18) ≤ cell')))), u21] ∧ Same G G' ∧ Sep [] H G G' H' [p1] ∧ H' p1 = some (.lst ((found_18 : (List Int)).map V.int)) ∧ cW (forS (List.drop i (limits')) (found_18, rest_19, state_20) (fun s x => F__law_draws_b1 ((decide (cell' < 0) || decide (((10 : Int) ^ Int.toNat 18) ≤ cell'))) (s.1) (s.2.1) (s.2.2) x)) K16 EE) ?_ ?_ ?_ ?_⟩
    · exact ⟨(([] : (List Int))), ((if cell' < 0 then -cell' else cell')), (((if cell' < 0 then -cell' else cell') % 2147483647)), _, _, rfl, (Same.refl _), S9, h7, hw⟩
    · intro i σ H22 _ hw
      obtain ⟨found_18, rest_19, state_20, u21, G25, rfl, eG26, S23, h24, hw⟩ := hw
      exact (SqL.of (S23.bM _ _ q_limits))
    · intro i x σ H27 hj hw
      obtain ⟨found_18, rest_19, state_20, u21, G30, rfl, eG31, S28, h29, hw⟩ := hw
      obtain ⟨x32, hx, rfl⟩ := map_get hj
      have hw := cW_forS hx hw
      have hw : cW (F__law_draws_b1 ((decide (cell' < 0) || decide (((10 : Int) ^ Int.toNat 18) ≤ cell'))) (found_18) (rest_19) (state_20) (x32)) _ EE := hw
      unfold F__law_draws_b1 at hw
      obtain ⟨K36, hK37, hw⟩ := cW_name hw
      refine ⟨_, rfl, _, rfl, ?_⟩
      refine iteB (fun c39 => ?_) (fun c39 => ?_)
      · have hw := cW_pos c39 hw
        refine ⟨_, rfl, _, _, rfl, rfl, _, rfl, ?_⟩
        refine iteD (fun c40 => ?_) (fun c40 => ?_)
        · have hw := cW_pos c40 hw
          refine ⟨_, rfl, (.inl ⟨rfl, _, SqL.of h29⟩), _, rfl, .inl ⟨_, rfl, ?_⟩⟩
          obtain ⟨g41, hw⟩ := cW_grd hw
          obtain ⟨g42, hw⟩ := cW_grd hw
          refine ⟨_, rfl, _, _, rfl, rfl, g41, _, _, _, rfl, rfl, h29, (app_lenM g42), ?_⟩
          generalize g43 : upd H27 p1 _ = H44
          obtain ⟨x45, h46⟩ := gen_mut g43
          have h47 : H44 p1 = some (.lst (((found_18) ++ [(rest_19 % x32)] : (List Int)).map V.int)) := snoc_map h46
          have S48 := S28.mut1 x45 (.head _) h47
          have hw := cW_bnd hw
          obtain ⟨g50, hw⟩ := cW_grd hw
          refine ⟨_, rfl, _, rfl, _, _, rfl, rfl, (divW_small g50.1 g50.2), ?_⟩
          have hw := cW_bnd hw
          have hw := cW_ok hw
          have hw := hK37 _ hw
          exact ⟨((found_18) ++ [(rest_19 % x32)]), ((rest_19 / x32)), (state_20), _, _, rfl, eG31, S48, h47, hw⟩
        · have hw := cW_neg c40 hw
          refine ⟨_, rfl, _, _, rfl, rfl, (.inr ⟨by decide, by decide⟩), _, _, rfl, rfl, .inl ⟨_, rfl, ?_⟩⟩
          refine ⟨_, _, rfl, rfl, (show (0 : Int) < 2147483647 by decide), ?_⟩
          have hw := cW_bnd hw
          refine ⟨_, rfl, _, _, rfl, rfl, (.inr ⟨by decide, by decide⟩), _, _, rfl, rfl, .inl ⟨_, rfl, ?_⟩⟩
          refine ⟨_, _, rfl, rfl, (show (0 : Int) < 2147483647 by decide), ?_⟩
          have hw := cW_bnd hw
          refine ⟨_, rfl, (.inl ⟨rfl, _, SqL.of h29⟩), _, rfl, _, _, rfl, rfl, (divW_lit (by decide) (by decide)), .inl ⟨_, rfl, ?_⟩⟩
          obtain ⟨g54, hw⟩ := cW_grd hw
          obtain ⟨g55, hw⟩ := cW_grd hw
          refine ⟨_, rfl, _, _, rfl, rfl, g54, _, _, _, rfl, rfl, h29, (app_lenM g55), ?_⟩
          generalize g56 : upd H27 p1 _ = H57
          obtain ⟨x58, h59⟩ := gen_mut g56
          have h60 : H57 p1 = some (.lst (((found_18) ++ [((((((((state_20 * 48271) + 11) % 2147483647) * 69621) + 7) % 2147483647) / 13) % x32)] : (List Int)).map V.int)) := snoc_map h59
          have S61 := S28.mut1 x58 (.head _) h60
          have hw := cW_bnd hw
          have hw := cW_ok hw
          have hw := hK37 _ hw
          exact ⟨((found_18) ++ [((((((((state_20 * 48271) + 11) % 2147483647) * 69621) + 7) % 2147483647) / 13) % x32)]), (rest_19), (((((((state_20 * 48271) + 11) % 2147483647) * 69621) + 7) % 2147483647)), _, _, rfl, eG31, S61, h60, hw⟩
      · have hw := cW_negB c39 hw
        refine iteF ?_
        refine ⟨_, rfl, _, _, rfl, rfl, (.inr ⟨by decide, by decide⟩), _, _, rfl, rfl, .inl ⟨_, rfl, ?_⟩⟩
        refine ⟨_, _, rfl, rfl, (show (0 : Int) < 2147483647 by decide), ?_⟩
        have hw := cW_bnd hw
        refine ⟨_, rfl, _, _, rfl, rfl, (.inr ⟨by decide, by decide⟩), _, _, rfl, rfl, .inl ⟨_, rfl, ?_⟩⟩
        refine ⟨_, _, rfl, rfl, (show (0 : Int) < 2147483647 by decide), ?_⟩
        have hw := cW_bnd hw
        refine ⟨_, rfl, (.inl ⟨rfl, _, SqL.of h29⟩), _, rfl, _, _, rfl, rfl, (divW_lit (by decide) (by decide)), .inl ⟨_, rfl, ?_⟩⟩
        obtain ⟨g65, hw⟩ := cW_grd hw
        obtain ⟨g66, hw⟩ := cW_grd hw
        refine ⟨_, rfl, _, _, rfl, rfl, g65, _, _, _, rfl, rfl, h29, (app_lenM g66), ?_⟩
        generalize g67 : upd H27 p1 _ = H68
        obtain ⟨x69, h70⟩ := gen_mut g67
        have h71 : H68 p1 = some (.lst (((found_18) ++ [((((((((state_20 * 48271) + 11) % 2147483647) * 69621) + 7) % 2147483647) / 13) % x32)] : (List Int)).map V.int)) := snoc_map h70
        have S72 := S28.mut1 x69 (.head _) h71
        have hw := cW_bnd hw
        have hw := cW_ok hw
        have hw := hK37 _ hw
        exact ⟨((found_18) ++ [((((((((state_20 * 48271) + 11) % 2147483647) * 69621) + 7) % 2147483647) / 13) % x32)]), (rest_19), (((((((state_20 * 48271) + 11) % 2147483647) * 69621) + 7) % 2147483647)), _, _, rfl, eG31, S72, h71, hw⟩
    · intro σ H74 hw
      obtain ⟨found_18, rest_19, state_20, u21, G77, rfl, eG78, S75, h76, hw⟩ := hw
      have hw := hK17 _ (cW_forS0 (by rw [List.length_map]) hw)
      have hw : cW (F__law_draws_r1  (found_18) (rest_19) (state_20)) _ EE := hw
      unfold F__law_draws_r1 at hw
      refine ⟨_, rfl, ?_⟩
      have hw := cW_ok hw
      exact hK0 _ hw _ _ fr8 S75.b0 h76

abbrev N__law_between : List Str := ["first", "second", "low", "high"]
theorem sc__law_between : FnScope N__law_between ["first", "second", "low", "high"] (defScope s__law_between) := ⟨rfl, rfl, rfl, by decide +kernel, rfl, by decide +kernel, by decide +kernel⟩
theorem ok__law_between (D : DefX K mg "_law_between" s__law_between ["first", "second", "low", "high"] pats__law_between) (T : Txt w K mg AD)  : CalX P w K mg base 1 "_law_between" (sp__law_between K AD) pats__law_between := by
  refine D.ok sc__law_between (fun vs H Q E h => ?_) (fun f cdv A_ outer s H vs Q E hr h => ?_)
  · obtain ⟨G, first', second', low', high', rfl, _⟩ := h
    rfl
  · obtain ⟨G, first', second', low', high', rfl, sG, hw⟩ := h
    refine ⟨_, (pss_cons (ps_if (pt_cmp (pc_eqI (pv 0) pe_int)) (pss_one (ps_ret (pv 2))) pss_nil)
      (pss_cons (ps_if (pt_cmp (pc_eqI (pv 0) pe_int)) (pss_one (ps_ret (pv 3))) pss_nil)
      (pss_cons (ps_if (pt_cmp (pc_eqI (pv 0) pe_int)) (pss_one (ps_ret (pe_callB (call_min2 rfl) (by rfl) T.b_min (by decide +kernel) (pa_cons (pe_op op_add (pv 2) pe_int) (pa_cons (pv 3) pa_nil))))) pss_nil)
      (pss_one (ps_ret (pe_op op_add (pv 2) (pe_op op_mod (pe_callTy call_int1 (by rfl) T.b_int (by decide +kernel) (pa_cons (pv 1) pa_nil)) (pe_op op_add (pe_op op_sub (pv 3) (pv 2)) pe_int)))))))), ?_⟩
    obtain ⟨KK, EE, hK0, hE, hw⟩ := cW_gen hw
    have S0 := Sep.startG sG
    unfold F__law_between at hw
    refine ⟨_, rfl, _, _, rfl, rfl, _, rfl, ?_⟩
    refine iteD (fun c82 => ?_) (fun c82 => ?_)
    · have hw := cW_pos c82 hw
      refine ⟨_, rfl, ?_⟩
      have hw := cW_ok hw
      exact hK0 _ hw
    · have hw := cW_neg c82 hw
      refine ⟨_, rfl, _, _, rfl, rfl, _, rfl, ?_⟩
      refine iteD (fun c83 => ?_) (fun c83 => ?_)
      · have hw := cW_pos c83 hw
        refine ⟨_, rfl, ?_⟩
        have hw := cW_ok hw
        exact hK0 _ hw
      · have hw := cW_neg c83 hw
        refine ⟨_, rfl, _, _, rfl, rfl, _, rfl, ?_⟩
        refine iteD (fun c84 => ?_) (fun c84 => ?_)
        · have hw := cW_pos c84 hw
          refine ⟨_, rfl, _, _, rfl, rfl, _, rfl, _, _, rfl, ?_⟩
          have hw := cW_ok hw
          exact hK0 _ hw
        · have hw := cW_neg c84 hw
          refine ⟨_, rfl, _, rfl, .inl ⟨_, rfl, ?_⟩⟩
          obtain ⟨g85, hw⟩ := cW_grd hw
          refine ⟨_, rfl, _, rfl, _, _, rfl, rfl, _, _, rfl, rfl, _, _, rfl, rfl, g85, _, _, rfl, rfl, ?_⟩
          have hw := cW_ok hw
          exact hK0 _ hw

abbrev N__law_numbers : List Str := ["cell", "draws", "width", "height", "rows"]
theorem sc__law_numbers : FnScope N__law_numbers ["cell"] (defScope s__law_numbers) := ⟨rfl, rfl, rfl, by decide +kernel, rfl, by decide +kernel, by decide +kernel⟩
theorem ok__law_numbers (D : DefX K mg "_law_numbers" s__law_numbers ["cell"] pats__law_numbers) (T : Txt w K mg AD) (c__law_draws : CalX P w K mg base 1 "_law_draws" (sp__law_draws K AD) pats__law_draws) (c__law_between : CalX P w K mg base 1 "_law_between" (sp__law_between K AD) pats__law_between) : CalX P w K mg base 2 "_law_numbers" (sp__law_numbers K AD) pats__law_numbers := by
  refine D.ok sc__law_numbers (fun vs H Q E h => ?_) (fun f cdv A_ outer s H vs Q E hr h => ?_)
  · obtain ⟨G, cell', rfl, _⟩ := h
    rfl
  · obtain ⟨G, cell', rfl, sG, hw⟩ := h
    refine ⟨_, (pss_cons (ps_set (i := 1) sc__law_numbers.nd rfl (Or.inl rfl) (vx_callX c__law_draws pat__law_draws_0 (.head _) hr (by decide) (takes_of rfl rfl rfl rfl) rfl (pa_cons (pv 0) (pa_cons (pe_lst (pa_cons pe_int (pa_cons pe_int (pa_cons pe_int (pa_cons pe_int (pa_cons pe_int (pa_cons pe_int (pa_cons pe_int (pa_cons pe_int (pa_cons pe_int (pa_cons pe_int (pa_cons pe_int (pa_cons pe_int pa_nil))))))))))))) pa_nil)) pk_nil))
      (pss_cons (ps_set (i := 2) sc__law_numbers.nd rfl (Or.inl rfl) (vx_callX c__law_between pat__law_between_0 (.head _) hr (by decide) (takes_of rfl rfl rfl rfl) rfl (pa_cons (pe_ix (ix_listK (K := K)) (pv 1) pe_int (fun _ _ => rfl)) (pa_cons (pe_ix (ix_listK (K := K)) (pv 1) pe_int (fun _ _ => rfl)) (pa_cons pe_int (pa_cons pe_int pa_nil)))) pk_nil))
      (pss_cons (ps_set (i := 3) sc__law_numbers.nd rfl (Or.inl rfl) (vx_callX c__law_between pat__law_between_0 (.head _) hr (by decide) (takes_of rfl rfl rfl rfl) rfl (pa_cons (pe_ix (ix_listK (K := K)) (pv 1) pe_int (fun _ _ => rfl)) (pa_cons (pe_ix (ix_listK (K := K)) (pv 1) pe_int (fun _ _ => rfl)) (pa_cons pe_int (pa_cons pe_int pa_nil)))) pk_nil))
      (pss_cons (ps_set (i := 4) sc__law_numbers.nd rfl (Or.inl rfl) (vx_callX c__law_between pat__law_between_0 (.head _) hr (by decide) (takes_of rfl rfl rfl rfl) rfl (pa_cons (pe_ix (ix_listK (K := K)) (pv 1) pe_int (fun _ _ => rfl)) (pa_cons (pe_ix (ix_listK (K := K)) (pv 1) pe_int (fun _ _ => rfl)) (pa_cons pe_int (pa_cons pe_int pa_nil)))) pk_nil))
      (pss_one (ps_ret (pe_lst (pa_cons (pv 2) (pa_cons (pv 3) (pa_cons (pe_op op_add pe_int (pe_ix (ix_listK (K := K)) (pv 1) pe_int (fun _ _ => rfl))) (pa_cons (pe_ix (ix_listK (K := K)) (pv 1) pe_int (fun _ _ => rfl)) (pa_cons (pe_op op_add pe_int (pe_ix (ix_listK (K := K)) (pv 1) pe_int (fun _ _ => rfl))) (pa_cons (pv 4) (pa_cons (pe_ix (ix_listK (K := K)) (pv 1) pe_int (fun _ _ => rfl)) (pa_cons (pe_ix (ix_listK (K := K)) (pv 1) pe_int (fun _ _ => rfl)) (pa_cons (pe_op op_add pe_int (pe_ix (ix_listK (K := K)) (pv 1) pe_int (fun _ _ => rfl))) pa_nil)))))))))))))))), ?_⟩
    obtain ⟨KK, EE, hK0, hE, hw⟩ := cW_gen hw
    have S0 := Sep.startG sG
    unfold F__law_numbers at hw
    refine ⟨_, rfl, (by show 12 ≤ sizeLine; decide), fun p86 n87 => ?_⟩
    generalize g88 : upd H p86 _ = H89
    obtain ⟨e90, h91⟩ := gen_new n87 g88
    have h92 : H89 p86 = some (.lst (([6, 256, 6, 256, 5, 3, 4, 6, 32, 2, 2, 4] : (List Int)).map V.int)) := h91
    have fr93 := S0.free n87
    have S94 := S0.new n87 e90 h92 fr93
    refine ⟨rfl, rfl, G, _, _, _, rfl, S94.sG, (hide_nil h92), cW_call hw (fun v95 hw p98 H96 n99 e97 h100 => ?_) (fun e he H2 e2 => hE e he H2 (Same.trans S94.b0 e2))⟩
    have h101 : H96 p98 = some (.lst ((v95 : (List Int)).map V.int)) := h100
    have fr102 := S94.free n99
    have S103 := S94.new n99 e97 h101 fr102
    obtain ⟨g104, hw⟩ := cW_grd hw
    obtain ⟨g105, hw⟩ := cW_grd hw
    refine ⟨_, rfl, _, _, _, _, rfl, rfl, (SqL.of h101), (atI_map g104), _, rfl, _, _, _, _, rfl, rfl, (SqL.of h101), (atI_map g105), rfl, rfl, G, _, _, _, _, rfl, S103.sG, cW_call hw (fun v106 hw => ?_) (fun e he => hE e he _ S103.b0)⟩
    obtain ⟨g107, hw⟩ := cW_grd hw
    obtain ⟨g108, hw⟩ := cW_grd hw
    refine ⟨_, rfl, _, _, _, _, rfl, rfl, (SqL.of h101), (atI_map g107), _, rfl, _, _, _, _, rfl, rfl, (SqL.of h101), (atI_map g108), rfl, rfl, G, _, _, _, _, rfl, S103.sG, cW_call hw (fun v109 hw => ?_) (fun e he => hE e he _ S103.b0)⟩
    obtain ⟨g110, hw⟩ := cW_grd hw
    obtain ⟨g111, hw⟩ := cW_grd hw
    refine ⟨_, rfl, _, _, _, _, rfl, rfl, (SqL.of h101), (atI_map g110), _, rfl, _, _, _, _, rfl, rfl, (SqL.of h101), (atI_map g111), rfl, rfl, G, _, _, _, _, rfl, S103.sG, cW_call hw (fun v112 hw => ?_) (fun e he => hE e he _ S103.b0)⟩
    obtain ⟨g113, hw⟩ := cW_grd hw
    obtain ⟨g114, hw⟩ := cW_grd hw
    obtain ⟨g115, hw⟩ := cW_grd hw
    obtain ⟨g116, hw⟩ := cW_grd hw
    obtain ⟨g117, hw⟩ := cW_grd hw
    obtain ⟨g118, hw⟩ := cW_grd hw
    refine ⟨_, rfl, _, rfl, _, rfl, _, _, _, _, rfl, rfl, (SqL.of h101), (atI_map g113), _, _, rfl, rfl, _, rfl, _, _, _, _, rfl, rfl, (SqL.of h101), (atI_map g114), _, rfl, _, _, _, _, rfl, rfl, (SqL.of h101), (atI_map g115), _, _, rfl, rfl, _, rfl, _, rfl, _, _, _, _, rfl, rfl, (SqL.of h101), (atI_map g116), _, rfl, _, _, _, _, rfl, rfl, (SqL.of h101), (atI_map g117), _, rfl, _, _, _, _, rfl, rfl, (SqL.of h101), (atI_map g118), _, _, rfl, rfl, (by show 9 ≤ sizeLine; decide), fun p119 n120 => ?_⟩
    generalize g121 : upd H96 p119 _ = H122
    obtain ⟨e123, h124⟩ := gen_new n120 g121
    have h125 : H122 p119 = some (.lst (([v106, v109, (8 + (itD (v95) (4))), (itD (v95) (5)), (1 + (itD (v95) (6))), v112, (itD (v95) (9)), (itD (v95) (10)), (1 + (itD (v95) (11)))] : (List Int)).map V.int)) := h124
    have fr126 := S103.free n120
    have S127 := S103.new n120 e123 h125 fr126
    have hw := cW_ok hw
    exact hK0 _ hw _ _ fr126 S127.b0 h125

abbrev N_Format___init__ : List Str := ["self", "width", "height", "depth", "chroma"]
theorem sc_Format___init__ : FnScope N_Format___init__ ["self", "width", "height", "depth", "chroma"] (defScope s_Format___init__) := ⟨rfl, rfl, rfl, by decide +kernel, rfl, by decide +kernel, by decide +kernel⟩
theorem ok_Format___init__ (D : InitX K mg AD.c_Format "Format" "Format.__init__" s_Format___init__ ["self", "width", "height", "depth", "chroma"] pats_Format___init__) (T : Txt w K mg AD)  : MakX P w K mg base 1 "Format" AD.c_Format (sp_Format___init__ K AD) pats_Format___init__ := by
  refine D.ok sc_Format___init__ (fun vs H Q E h => ?_) (fun f cdv A_ outer s H vs Q E hr h => ?_)
  · obtain ⟨G, p_self, dx_self, width', height', depth', chroma', rfl, _⟩ := h
    rfl
  · obtain ⟨G, p_self, dx_self, width', height', depth', chroma', rfl, sG, gM, h_self, hw⟩ := h
    refine ⟨_, (pss_cons (ps_if (pt_not (PW.pt (pw_and (pt_chain op_le op_le pe_int (pv 1) pe_int) (pw_and1 (pt_chain op_le op_le pe_int (pv 2) pe_int))))) (pss_one (ps_raise rfl (takes_of rfl rfl rfl rfl) (pmk_own PySem.F.excBase_ValueError T.xx_BadFormat T.xg_BadFormat T.xk_BadFormat (raises_own T.xb_BadFormat T.xt_BadFormat) rfl))) pss_nil)
      (pss_cons (ps_if (pt_not (pt_chain op_le op_le pe_int (pv 3) pe_int)) (pss_one (ps_raise rfl (takes_of rfl rfl rfl rfl) (pmk_own PySem.F.excBase_ValueError T.xx_BadFormat T.xg_BadFormat T.xk_BadFormat (raises_own T.xb_BadFormat T.xt_BadFormat) rfl))) pss_nil)
      (pss_cons (ps_if (pt_not (pt_chain op_le op_le pe_int (pv 4) pe_int)) (pss_one (ps_raise rfl (takes_of rfl rfl rfl rfl) (pmk_own PySem.F.excBase_ValueError T.xx_BadFormat T.xg_BadFormat T.xk_BadFormat (raises_own T.xb_BadFormat T.xt_BadFormat) rfl))) pss_nil)
      (pss_cons (ps_fld (pv 0) (pv 1) rfl)
      (pss_cons (ps_fld (pv 0) (pv 2) rfl)
      (pss_cons (ps_fld (pv 0) (pv 3) rfl)
      (pss_one (ps_fld (pv 0) (pv 4) rfl)))))))), ?_⟩
    obtain ⟨KK, EE, hK0, hE, hw⟩ := cW_gen hw
    have S0 := Sep.startM (M := [p_self]) sG (all_cons (some_ne h_self) all_nil) gM
    unfold F_Format___init__ at hw
    refine ⟨_, rfl, _, _, rfl, rfl, _, rfl, ?_⟩
    refine iteD (fun c128 => ?_) (fun c128 => ?_)
    · have hw := cW_pos c128 hw
      refine ⟨_, _, rfl, rfl, _, rfl, ?_⟩
      refine iteD (fun c129 => ?_) (fun c129 => ?_)
      · have hw := cW_pos c129 hw
        refine ⟨_, rfl, _, _, rfl, rfl, _, rfl, ?_⟩
        refine iteD (fun c130 => ?_) (fun c130 => ?_)
        · have hw := cW_pos c130 hw
          refine ⟨_, _, rfl, rfl, _, rfl, ?_⟩
          refine iteN (fun c131 => ?_) (fun c131 => ?_)
          · have hw := cW_neg c131 hw
            exact hE 1 (cW_er hw) _ (sameX_of S0.base)
          · have hw := cW_pos c131 hw
            refine ⟨_, rfl, _, _, rfl, rfl, _, rfl, ?_⟩
            refine iteD (fun c132 => ?_) (fun c132 => ?_)
            · have hw := cW_pos c132 hw
              refine ⟨_, _, rfl, rfl, _, rfl, ?_⟩
              refine iteN (fun c133 => ?_) (fun c133 => ?_)
              · have hw := cW_neg c133 hw
                exact hE 1 (cW_er hw) _ (sameX_of S0.base)
              · have hw := cW_pos c133 hw
                refine ⟨_, rfl, _, _, rfl, rfl, _, rfl, ?_⟩
                refine iteD (fun c134 => ?_) (fun c134 => ?_)
                · have hw := cW_pos c134 hw
                  refine ⟨_, _, rfl, rfl, _, rfl, ?_⟩
                  refine iteN (fun c135 => ?_) (fun c135 => ?_)
                  · have hw := cW_neg c135 hw
                    exact hE 1 (cW_er hw) _ (sameX_of S0.base)
                  · have hw := cW_pos c135 hw
                    refine ⟨_, rfl, _, rfl, _, _, _, _, rfl, h_self, T.cl_Format, T.n_Format_width, (by show 0 < 1000; decide), ?_⟩
                    generalize g136 : upd H p_self _ = H137
                    obtain ⟨x138, h139⟩ := gen_mut g136
                    have h140 : H137 p_self = some (.ins AD.c_Format dx_self [("width", V.int (width'))]) := h139
                    have S141 := S0.mut1 x138 (.head _) h140
                    refine ⟨_, rfl, _, rfl, _, _, _, _, rfl, h140, T.cl_Format, T.n_Format_height, (by show 1 < 1000; decide), ?_⟩
                    generalize g142 : upd H137 p_self _ = H143
                    obtain ⟨x144, h145⟩ := gen_mut g142
                    have h146 : H143 p_self = some (.ins AD.c_Format dx_self [("width", V.int (width')), ("height", V.int (height'))]) := h145
                    have S147 := S141.mut1 x144 (.head _) h146
                    refine ⟨_, rfl, _, rfl, _, _, _, _, rfl, h146, T.cl_Format, T.n_Format_depth, (by show 2 < 1000; decide), ?_⟩
                    generalize g148 : upd H143 p_self _ = H149
                    obtain ⟨x150, h151⟩ := gen_mut g148
                    have h152 : H149 p_self = some (.ins AD.c_Format dx_self [("width", V.int (width')), ("height", V.int (height')), ("depth", V.int (depth'))]) := h151
                    have S153 := S147.mut1 x150 (.head _) h152
                    refine ⟨_, rfl, _, rfl, _, _, _, _, rfl, h152, T.cl_Format, T.n_Format_chroma, (by show 3 < 1000; decide), ?_⟩
                    generalize g154 : upd H149 p_self _ = H155
                    obtain ⟨x156, h157⟩ := gen_mut g154
                    have h158 : H155 p_self = some (.ins AD.c_Format dx_self [("width", V.int (width')), ("height", V.int (height')), ("depth", V.int (depth')), ("chroma", V.int (chroma'))]) := h157
                    have S159 := S153.mut1 x156 (.head _) h158
                    have hw := cW_ok hw
                    exact hK0 _ hw _ (sameX_of S159.base) h158
                · have hw := cW_neg c134 hw
                  refine ⟨_, rfl, ?_⟩
                  refine iteT ?_
                  exact hE 1 (cW_er hw) _ (sameX_of S0.base)
            · have hw := cW_neg c132 hw
              refine ⟨_, rfl, ?_⟩
              refine iteT ?_
              exact hE 1 (cW_er hw) _ (sameX_of S0.base)
        · have hw := cW_neg c130 hw
          refine ⟨_, rfl, ?_⟩
          refine iteT ?_
          exact hE 1 (cW_er hw) _ (sameX_of S0.base)
      · have hw := cW_neg c129 hw
        refine iteT ?_
        exact hE 1 (cW_er hw) _ (sameX_of S0.base)
    · have hw := cW_neg c128 hw
      refine ⟨_, rfl, ?_⟩
      refine iteF ?_
      refine iteT ?_
      exact hE 1 (cW_er hw) _ (sameX_of S0.base)

abbrev N__require : List Str := ["holds", "text"]
theorem sc__require : FnScope N__require ["holds", "text"] (defScope s__require) := ⟨rfl, rfl, rfl, by decide +kernel, rfl, by decide +kernel, by decide +kernel⟩
theorem ok__require (D : DefX K mg "_require" s__require ["holds", "text"] pats__require) (T : Txt w K mg AD)  : CalX P w K mg base 1 "_require" (sp__require K AD) pats__require := by
  refine D.ok sc__require (fun vs H Q E h => ?_) (fun f cdv A_ outer s H vs Q E hr h => ?_)
  · obtain ⟨G, holds', text', rfl, _⟩ := h
    rfl
  · obtain ⟨G, holds', text', rfl, sG, hw⟩ := h
    refine ⟨_, (pss_one (ps_if (pt_not (pt_val (pv 0))) (pss_one (ps_raise rfl (takes_of rfl rfl rfl rfl) (SkE.pmk_own1 PySem.F.excBase_ValueError T.xx_BadHeader T.xg_BadHeader T.xk_BadHeader (raises_own T.xb_BadHeader T.xt_BadHeader) rfl (pv 1)))) pss_nil)), ?_⟩
    obtain ⟨KK, EE, hK0, hE, hw⟩ := cW_gen hw
    have S0 := Sep.startG sG
    unfold F__require at hw
    refine ⟨_, rfl, _, rfl, ?_⟩
    refine iteBN (fun c160 => ?_) (fun c160 => ?_)
    · have hw := cW_negB c160 hw
      refine ⟨_, rfl, ?_⟩
      exact hE 5 (cW_er hw)
    · have hw := cW_pos c160 hw
      have hw := cW_ok hw
      exact hK0 _ hw

abbrev N_Settings___init__ : List Str := ["self", "fmt", "slots", "rows", "deblock", "offset", "layers"]
theorem sc_Settings___init__ : FnScope N_Settings___init__ ["self", "fmt", "slots", "rows", "deblock", "offset", "layers"] (defScope s_Settings___init__) := ⟨rfl, rfl, rfl, by decide +kernel, rfl, by decide +kernel, by decide +kernel⟩
theorem ok_Settings___init__ (D : InitX K mg AD.c_Settings "Settings" "Settings.__init__" s_Settings___init__ ["self", "fmt", "slots", "rows", "deblock", "offset", "layers"] pats_Settings___init__) (T : Txt w K mg AD) (c__require : CalX P w K mg base 1 "_require" (sp__require K AD) pats__require) : MakX P w K mg base 2 "Settings" AD.c_Settings (sp_Settings___init__ K AD) pats_Settings___init__ := by
  refine D.ok sc_Settings___init__ (fun vs H Q E h => ?_) (fun f cdv A_ outer s H vs Q E hr h => ?_)
  · obtain ⟨G, p_self, dx_self, p_fmt, dx_fmt, fmt', slots', rows', deblock', offset', layers', rfl, _⟩ := h
    rfl
  · obtain ⟨G, p_self, dx_self, p_fmt, dx_fmt, fmt', slots', rows', deblock', offset', layers', rfl, sG, gM, h_self, h_p_fmt, hw⟩ := h
    refine ⟨_, (pss_cons (ps_expr (vx_callX c__require pat__require_0 (.head _) hr (by decide) (takes_of rfl rfl rfl rfl) rfl (pa_cons (pe_chain op_le op_le pe_int (pv 2) pe_int) (pa_cons pe_str pa_nil)) pk_nil))
      (pss_cons (ps_expr (vx_callX c__require pat__require_0 (.head _) hr (by decide) (takes_of rfl rfl rfl rfl) rfl (pa_cons (pe_chain op_le op_le pe_int (pv 3) pe_int) (pa_cons pe_str pa_nil)) pk_nil))
      (pss_cons (ps_expr (vx_callX c__require pat__require_0 (.head _) hr (by decide) (takes_of rfl rfl rfl rfl) rfl (pa_cons (pe_chain op_le op_le pe_int (pv 6) pe_int) (pa_cons pe_str pa_nil)) pk_nil))
      (pss_cons (ps_fld (pv 0) (pv 1) rfl)
      (pss_cons (ps_fld (pv 0) (pv 2) rfl)
      (pss_cons (ps_fld (pv 0) (pv 3) rfl)
      (pss_cons (ps_fld (pv 0) (pv 4) rfl)
      (pss_cons (ps_fld (pv 0) (pv 5) rfl)
      (pss_one (ps_fld (pv 0) (pv 6) rfl)))))))))), ?_⟩
    obtain ⟨KK, EE, hK0, hE, hw⟩ := cW_gen hw
    have S0 := Sep.startM (M := [p_self]) sG (all_cons (some_ne h_self) all_nil) gM
    unfold F_Settings___init__ at hw
    refine vv_chain (ta := (tC (V.int 1))) (tb := (tVar 2)) (tc := (tC (V.int 4))) (r := (rI0 fun i j => V.bl (decide (i ≤ j)))) (r' := (rI0 fun i j => V.bl (decide (i ≤ j)))) (x := V.int (1)) (y := V.int (slots')) (z := V.int (4)) (a := decide (1 ≤ slots')) (b := decide (slots' ≤ 4)) ?hx161 ?hy162 ?hz163 (fun Q q => ⟨_, _, rfl, rfl, q⟩) (fun Q q => ⟨_, _, rfl, rfl, q⟩) _ ?_
    case hx161 => exact val_c
    case hy162 => exact (val_var rfl)
    case hz163 => exact val_c
    refine ⟨rfl, rfl, G, _, _, rfl, S0.sG, cW_call hw (fun v164 hw => ?_) (fun e he => hE e he _ (sameX_of S0.base))⟩
    refine vv_chain (ta := (tC (V.int 1))) (tb := (tVar 3)) (tc := (tC (V.int 32))) (r := (rI0 fun i j => V.bl (decide (i ≤ j)))) (r' := (rI0 fun i j => V.bl (decide (i ≤ j)))) (x := V.int (1)) (y := V.int (rows')) (z := V.int (32)) (a := decide (1 ≤ rows')) (b := decide (rows' ≤ 32)) ?hx165 ?hy166 ?hz167 (fun Q q => ⟨_, _, rfl, rfl, q⟩) (fun Q q => ⟨_, _, rfl, rfl, q⟩) _ ?_
    case hx165 => exact val_c
    case hy166 => exact (val_var rfl)
    case hz167 => exact val_c
    refine ⟨rfl, rfl, G, _, _, rfl, S0.sG, cW_call hw (fun v168 hw => ?_) (fun e he => hE e he _ (sameX_of S0.base))⟩
    refine vv_chain (ta := (tC (V.int 1))) (tb := (tVar 6)) (tc := (tC (V.int 4))) (r := (rI0 fun i j => V.bl (decide (i ≤ j)))) (r' := (rI0 fun i j => V.bl (decide (i ≤ j)))) (x := V.int (1)) (y := V.int (layers')) (z := V.int (4)) (a := decide (1 ≤ layers')) (b := decide (layers' ≤ 4)) ?hx169 ?hy170 ?hz171 (fun Q q => ⟨_, _, rfl, rfl, q⟩) (fun Q q => ⟨_, _, rfl, rfl, q⟩) _ ?_
    case hx169 => exact val_c
    case hy170 => exact (val_var rfl)
    case hz171 => exact val_c
    refine ⟨rfl, rfl, G, _, _, rfl, S0.sG, cW_call hw (fun v172 hw => ?_) (fun e he => hE e he _ (sameX_of S0.base))⟩
    refine ⟨_, rfl, _, rfl, _, _, _, _, rfl, h_self, T.cl_Settings, T.n_Settings_fmt, (by show 0 < 1000; decide), ?_⟩
    generalize g173 : upd H p_self _ = H174
    obtain ⟨x175, h176⟩ := gen_mut g173
    have h177 : H174 p_self = some (.ins AD.c_Settings dx_self [("fmt", V.ref p_fmt)]) := h176
    have S178 := S0.mut1 x175 (.head _) h177
    refine ⟨_, rfl, _, rfl, _, _, _, _, rfl, h177, T.cl_Settings, T.n_Settings_slots, (by show 1 < 1000; decide), ?_⟩
    generalize g179 : upd H174 p_self _ = H180
    obtain ⟨x181, h182⟩ := gen_mut g179
    have h183 : H180 p_self = some (.ins AD.c_Settings dx_self [("fmt", V.ref p_fmt), ("slots", V.int (slots'))]) := h182
    have S184 := S178.mut1 x181 (.head _) h183
    refine ⟨_, rfl, _, rfl, _, _, _, _, rfl, h183, T.cl_Settings, T.n_Settings_rows, (by show 2 < 1000; decide), ?_⟩
    generalize g185 : upd H180 p_self _ = H186
    obtain ⟨x187, h188⟩ := gen_mut g185
    have h189 : H186 p_self = some (.ins AD.c_Settings dx_self [("fmt", V.ref p_fmt), ("slots", V.int (slots')), ("rows", V.int (rows'))]) := h188
    have S190 := S184.mut1 x187 (.head _) h189
    refine ⟨_, rfl, _, rfl, _, _, _, _, rfl, h189, T.cl_Settings, T.n_Settings_deblock, (by show 3 < 1000; decide), ?_⟩
    generalize g191 : upd H186 p_self _ = H192
    obtain ⟨x193, h194⟩ := gen_mut g191
    have h195 : H192 p_self = some (.ins AD.c_Settings dx_self [("fmt", V.ref p_fmt), ("slots", V.int (slots')), ("rows", V.int (rows')), ("deblock", V.bl (deblock'))]) := h194
    have S196 := S190.mut1 x193 (.head _) h195
    refine ⟨_, rfl, _, rfl, _, _, _, _, rfl, h195, T.cl_Settings, T.n_Settings_offset, (by show 4 < 1000; decide), ?_⟩
    generalize g197 : upd H192 p_self _ = H198
    obtain ⟨x199, h200⟩ := gen_mut g197
    have h201 : H198 p_self = some (.ins AD.c_Settings dx_self [("fmt", V.ref p_fmt), ("slots", V.int (slots')), ("rows", V.int (rows')), ("deblock", V.bl (deblock')), ("offset", V.bl (offset'))]) := h200
    have S202 := S196.mut1 x199 (.head _) h201
    refine ⟨_, rfl, _, rfl, _, _, _, _, rfl, h201, T.cl_Settings, T.n_Settings_layers, (by show 5 < 1000; decide), ?_⟩
    generalize g203 : upd H198 p_self _ = H204
    obtain ⟨x205, h206⟩ := gen_mut g203
    have h207 : H204 p_self = some (.ins AD.c_Settings dx_self [("fmt", V.ref p_fmt), ("slots", V.int (slots')), ("rows", V.int (rows')), ("deblock", V.bl (deblock')), ("offset", V.bl (offset')), ("layers", V.int (layers'))]) := h206
    have S208 := S202.mut1 x205 (.head _) h207
    have hw := cW_ok hw
    exact hK0 _ hw _ (sameX_of S208.base) h207

abbrev N__law_settings : List Str := ["n", "fmt"]
theorem sc__law_settings : FnScope N__law_settings ["n"] (defScope s__law_settings) := ⟨rfl, rfl, rfl, by decide +kernel, rfl, by decide +kernel, by decide +kernel⟩
theorem ok__law_settings (D : DefX K mg "_law_settings" s__law_settings ["n"] pats__law_settings) (T : Txt w K mg AD) (c_Format___init__ : MakX P w K mg base 1 "Format" AD.c_Format (sp_Format___init__ K AD) pats_Format___init__) (c_Settings___init__ : MakX P w K mg base 2 "Settings" AD.c_Settings (sp_Settings___init__ K AD) pats_Settings___init__) : CalX P w K mg base 4 "_law_settings" (sp__law_settings K AD) pats__law_settings := by
  refine D.ok sc__law_settings (fun vs H Q E h => ?_) (fun f cdv A_ outer s H vs Q E hr h => ?_)
  · obtain ⟨G, a_n, n', rfl, _⟩ := h
    rfl
  · obtain ⟨G, a_n, n', rfl, sG, q_n, hw⟩ := h
    refine ⟨_, (pss_cons (ps_set (i := 1) sc__law_settings.nd rfl (Or.inl rfl) (vx_makeX c_Format___init__ pat_Format___init___0 (.head _) hr (by decide) (takes_of rfl rfl rfl rfl) rfl (pa_cons (pe_ix (ix_listK (K := K)) (pv 0) pe_int (fun _ _ => rfl)) (pa_cons (pe_ix (ix_listK (K := K)) (pv 0) pe_int (fun _ _ => rfl)) pa_nil)) (pk_cons (pe_ix (ix_listK (K := K)) (pv 0) pe_int (fun _ _ => rfl)) (pk_cons (pe_ix (ix_listK (K := K)) (pv 0) pe_int (fun _ _ => rfl)) pk_nil))))
      (pss_one (ps_ret (vx_makeX c_Settings___init__ pat_Settings___init___0 (.head _) hr (by decide) (takes_of rfl rfl rfl rfl) rfl (pa_cons (pv 1) pa_nil) (pk_cons (pe_ix (ix_listK (K := K)) (pv 0) pe_int (fun _ _ => rfl)) (pk_cons (pe_ix (ix_listK (K := K)) (pv 0) pe_int (fun _ _ => rfl)) (pk_cons (pe_cmp (pc_eqI (pe_ix (ix_listK (K := K)) (pv 0) pe_int (fun _ _ => rfl)) pe_int)) (pk_cons (pe_cmp (pc_eqI (pe_ix (ix_listK (K := K)) (pv 0) pe_int (fun _ _ => rfl)) pe_int)) (pk_cons (pe_ix (ix_listK (K := K)) (pv 0) pe_int (fun _ _ => rfl)) pk_nil))))))))), ?_⟩
    obtain ⟨KK, EE, hK0, hE, hw⟩ := cW_gen hw
    have S0 := Sep.startG sG
    unfold F__law_settings at hw
    obtain ⟨g209, hw⟩ := cW_grd hw
    obtain ⟨g210, hw⟩ := cW_grd hw
    obtain ⟨g211, hw⟩ := cW_grd hw
    obtain ⟨g212, hw⟩ := cW_grd hw
    refine ⟨_, rfl, _, _, _, _, rfl, rfl, (SqL.of (S0.bM _ _ q_n)), (atI_map g209), _, rfl, _, _, _, _, rfl, rfl, (SqL.of (S0.bM _ _ q_n)), (atI_map g210), _, rfl, _, _, _, _, rfl, rfl, (SqL.of (S0.bM _ _ q_n)), (atI_map g211), _, rfl, _, _, _, _, rfl, rfl, (SqL.of (S0.bM _ _ q_n)), (atI_map g212), rfl, rfl, fun x213 dx214 n215 n216 n217 => ?_⟩
    generalize g218 : upd (upd H dx214 _) x213 _ = H219
    obtain ⟨e220, h221⟩ := gen_obj n215 n216 n217 g218
    have fr222 := S0.free n215
    have S223 := S0.new n215 e220 h221 fr222
    refine ⟨G, _, _, _, _, _, _, rfl, S223.sG, (S223.gno (all_cons (.head _) all_nil)), h221, cW_call hw (fun v224 hw H225 x226 h227 => ⟨rfl, ?_⟩) (fun e he H2 e2 => hE e he H2 (Same.trans S0.b0 (same_mut e220 e2 n215)))⟩
    have S228 : Sep _ _ _ _ H225 [x213] := Sep.init S223 x226 (.head _) h227 [] all_nil
    obtain ⟨g229, hw⟩ := cW_grd hw
    obtain ⟨g230, hw⟩ := cW_grd hw
    obtain ⟨g231, hw⟩ := cW_grd hw
    obtain ⟨g232, hw⟩ := cW_grd hw
    obtain ⟨g233, hw⟩ := cW_grd hw
    refine ⟨_, rfl, _, rfl, _, _, _, _, rfl, rfl, (SqL.of (S228.bM _ _ q_n)), (atI_map g229), _, rfl, _, _, _, _, rfl, rfl, (SqL.of (S228.bM _ _ q_n)), (atI_map g230), _, rfl, _, _, _, _, rfl, rfl, (SqL.of (S228.bM _ _ q_n)), (atI_map g231), _, _, rfl, rfl, _, rfl, _, _, _, _, rfl, rfl, (SqL.of (S228.bM _ _ q_n)), (atI_map g232), _, _, rfl, rfl, _, rfl, _, _, _, _, rfl, rfl, (SqL.of (S228.bM _ _ q_n)), (atI_map g233), rfl, rfl, fun x234 dx235 n236 n237 n238 => ?_⟩
    generalize g239 : upd (upd H225 dx235 _) x234 _ = H240
    obtain ⟨e241, h242⟩ := gen_obj n236 n237 n238 g239
    have fr243 := S228.free n236
    have S244 := S228.new n236 e241 h242 fr243
    have h245 := (e241 _ _ h227)
    refine ⟨G, _, _, _, _, v224, _, _, _, _, _, rfl, S244.sG, (S244.gno (all_cons (.head _) all_nil)), h242, ((hideL_out (ni1 (ne_of_none h227 n236))).trans h245), cW_call hw (fun v246 hw H247 x248 h249 => ⟨rfl, ?_⟩) (fun e he H2 e2 => hE e he H2 (Same.trans S228.b0 (same_mut e241 e2 n236)))⟩
    have S250 : Sep _ _ _ _ H247 [x234, x213] := Sep.init S244 x248 (.head _) h249 [] all_nil
    have h251 := ((SameXs.of x248) _ _ h245 (ni1 (ne_of_none h227 n236)))
    have hw := cW_ok hw
    exact hK0 _ hw _ _ _ _ _ S250.b0 fr243 fr222 (ne_of_none h227 n236).symm h249 h251

abbrev N_Format_blocks : List Str := ["self"]
theorem sc_Format_blocks : FnScope N_Format_blocks ["self"] (defScope s_Format_blocks) := ⟨rfl, rfl, rfl, by decide +kernel, rfl, by decide +kernel, by decide +kernel⟩
theorem ok_Format_blocks (D : MethX K AD.c_Format "Format.blocks" "blocks" s_Format_blocks ["self"] pats_Format_blocks) (T : Txt w K mg AD)  : MetX P w K mg base 1 AD.c_Format "blocks" (sp_Format_blocks K AD) pats_Format_blocks := by
  refine D.ok T.cl_Format sc_Format_blocks (fun vs H Q E h => ?_) (fun f cdv A_ outer s H vs Q E hr h => ?_)
  · obtain ⟨G, p_self, dx_self, self', rfl, _⟩ := h
    rfl
  · obtain ⟨G, p_self, dx_self, self', rfl, sG, h_p_self, hw⟩ := h
    refine ⟨_, (pss_one (ps_ret (pe_tup (pa_cons (pe_op op_fdivW (pe_op op_sub (pe_op op_add (fldK (K := K) (pv 0)) (C8.pe_gc rfl T.g_BLOCK)) pe_int) (C8.pe_gc rfl T.g_BLOCK)) (pa_cons (pe_op op_fdivW (pe_op op_sub (pe_op op_add (fldK (K := K) (pv 0)) (C8.pe_gc rfl T.g_BLOCK)) pe_int) (C8.pe_gc rfl T.g_BLOCK)) pa_nil))))), ?_⟩
    obtain ⟨KK, EE, hK0, hE, hw⟩ := cW_gen hw
    have S0 := Sep.startG sG
    unfold F_Format_blocks at hw
    refine ⟨_, rfl, _, _, _, _, _, rfl, (S0.bM _ _ h_p_self), T.cl_Format, T.n_Format_width, rfl, _, _, rfl, rfl, _, _, rfl, rfl, _, _, rfl, rfl, (divW_lit (by decide) (by decide)), _, rfl, _, _, _, _, _, rfl, (S0.bM _ _ h_p_self), T.cl_Format, T.n_Format_height, rfl, _, _, rfl, rfl, _, _, rfl, rfl, _, _, rfl, rfl, (divW_lit (by decide) (by decide)), (by show 2 ≤ sizeLine; decide), fun p252 n253 => ?_⟩
    generalize g254 : upd H p252 _ = H255
    obtain ⟨e256, h257⟩ := gen_new n253 g254
    have h258 : H255 p252 = some (.tup [V.int ((((self'.width + 8) - 1) / 8)), V.int ((((self'.height + 8) - 1) / 8))]) := h257
    have fr259 := S0.free n253
    obtain ⟨G261, eG262, hg263, S260⟩ := S0.grow n253 e256 h258 fr259
    have hw := cW_ok hw
    exact hK0 _ hw _ _ _ S260.b0 S260.g0 S260.sG S260.gn (rp_mk2 hg263 (.int _) (.int _))

abbrev N_Settings_slices : List Str := ["self", "_", "rows"]
theorem sc_Settings_slices : FnScope N_Settings_slices ["self"] (defScope s_Settings_slices) := ⟨rfl, rfl, rfl, by decide +kernel, rfl, by decide +kernel, by decide +kernel⟩
theorem ok_Settings_slices (D : MethX K AD.c_Settings "Settings.slices" "slices" s_Settings_slices ["self"] pats_Settings_slices) (T : Txt w K mg AD) (c_Format_blocks : MetX P w K mg base 1 AD.c_Format "blocks" (sp_Format_blocks K AD) pats_Format_blocks) : MetX P w K mg base 2 AD.c_Settings "slices" (sp_Settings_slices K AD) pats_Settings_slices := by
  refine D.ok T.cl_Settings sc_Settings_slices (fun vs H Q E h => ?_) (fun f cdv A_ outer s H vs Q E hr h => ?_)
  · obtain ⟨G, p_self, p_self_fmt, dx_self, dx_self_fmt, self', rfl, _⟩ := h
    rfl
  · obtain ⟨G, p_self, p_self_fmt, dx_self, dx_self_fmt, self', rfl, sG, h_p_self, h_p_self_fmt, hw⟩ := h
    refine ⟨_, (pss_cons (ps_asg (vx_methX0 c_Format_blocks pat_Format_blocks_0 (.head _) hr (by decide) (takes_of rfl rfl rfl rfl) (fldK (K := K) (pv 0))) (pg_tupK (K := K) (n := 2) (pgs_cons (pg_name (i := 1) sc_Settings_slices.nd rfl (Or.inl rfl)) (pgs_cons (pg_name (i := 2) sc_Settings_slices.nd rfl (Or.inl rfl)) pgs_nil))))
      (pss_one (ps_ret (pe_op op_fdivW (pe_op op_sub (pe_op op_add (pv 2) (fldK (K := K) (pv 0))) pe_int) (fldK (K := K) (pv 0)))))), ?_⟩
    obtain ⟨KK, EE, hK0, hE, hw⟩ := cW_gen hw
    have S0 := Sep.startG sG
    unfold F_Settings_slices at hw
    refine ⟨_, rfl, _, _, _, _, _, rfl, (S0.bM _ _ h_p_self), T.cl_Settings, T.n_Settings_fmt, rfl, _, _, _, rfl, (S0.bM _ _ h_p_self_fmt), rfl, rfl, rfl, G, _, _, self'.fmt, rfl, S0.sG, (hide_nil (S0.bM _ _ h_p_self_fmt)), cW_call hw (fun v264 hw v267 H265 G268 e266 eG269 sG270 hn271 r272 => ?_) (fun e he H2 e2 => hE e he H2 (Same.trans S0.b0 e2))⟩
    have S273 := S0.step e266 eG269 sG270 hn271
    obtain ⟨a274, v276, v277, rfl, h275, r278, r279⟩ := rp_tup2 r272
    obtain rfl := rp_int r278
    obtain rfl := rp_int r279
    obtain ⟨g280, hw⟩ := cW_grd hw
    refine ⟨_, _, rfl, (SqT.of (S273.sG _ _ h275)), rfl, _, _, rfl, _, _, rfl, rfl, _, rfl, _, rfl, _, _, _, _, _, rfl, (S273.bM _ _ h_p_self), T.cl_Settings, T.n_Settings_rows, rfl, _, _, rfl, rfl, _, _, rfl, rfl, _, rfl, _, _, _, _, _, rfl, (S273.bM _ _ h_p_self), T.cl_Settings, T.n_Settings_rows, rfl, _, _, rfl, rfl, (divW_small g280.1 g280.2), ?_⟩
    have hw := cW_ok hw
    exact hK0 _ hw _ S273.b0

abbrev N_SliceHeader___init__ : List Str := ["self", "settings", "number", "index", "delta"]
theorem sc_SliceHeader___init__ : FnScope N_SliceHeader___init__ ["self", "settings", "number", "index", "delta"] (defScope s_SliceHeader___init__) := ⟨rfl, rfl, rfl, by decide +kernel, rfl, by decide +kernel, by decide +kernel⟩
theorem ok_SliceHeader___init__ (D : InitX K mg AD.c_SliceHeader "SliceHeader" "SliceHeader.__init__" s_SliceHeader___init__ ["self", "settings", "number", "index", "delta"] pats_SliceHeader___init__) (T : Txt w K mg AD) (c__require : CalX P w K mg base 1 "_require" (sp__require K AD) pats__require) (c_Settings_slices : MetX P w K mg base 2 AD.c_Settings "slices" (sp_Settings_slices K AD) pats_Settings_slices) : MakX P w K mg base 3 "SliceHeader" AD.c_SliceHeader (sp_SliceHeader___init__ K AD) pats_SliceHeader___init__ := by
  refine D.ok sc_SliceHeader___init__ (fun vs H Q E h => ?_) (fun f cdv A_ outer s H vs Q E hr h => ?_)
  · obtain ⟨G, p_self, dx_self, p_settings, p_settings_fmt, dx_settings, dx_settings_fmt, settings', number', index', delta', rfl, _⟩ := h
    rfl
  · obtain ⟨G, p_self, dx_self, p_settings, p_settings_fmt, dx_settings, dx_settings_fmt, settings', number', index', delta', rfl, sG, gM, h_self, h_p_settings, h_p_settings_fmt, hw⟩ := h
    refine ⟨_, (pss_cons (ps_expr (vx_callX c__require pat__require_0 (.head _) hr (by decide) (takes_of rfl rfl rfl rfl) rfl (pa_cons (pe_chain op_le op_le pe_int (pv 2) (C8.pe_gc rfl T.g_GREATEST_NUMBER)) (pa_cons pe_str pa_nil)) pk_nil))
      (C8.pss_cut (ps_expr (vx_callX c__require pat__require_0 (.head _) hr (by decide) (takes_of rfl rfl rfl rfl) rfl (pa_cons (pe_chain op_le op_lt pe_int (pv 3) (vx_methX0 c_Settings_slices pat_Settings_slices_0 (.head _) hr (by decide) (takes_of rfl rfl rfl rfl) (pv 1))) (pa_cons pe_str pa_nil)) pk_nil))
      (pss_cons (ps_expr (vx_callX c__require pat__require_0 (.head _) hr (by decide) (takes_of rfl rfl rfl rfl) rfl (pa_cons (pe_chain op_le op_le (pe_un un_neg (C8.pe_gc rfl T.g_GREATEST_LEVEL)) (pv 4) (C8.pe_gc rfl T.g_GREATEST_LEVEL)) (pa_cons pe_str pa_nil)) pk_nil))
      (pss_cons (ps_fld (pv 0) (pv 2) rfl)
      (pss_cons (ps_fld (pv 0) (pv 3) rfl)
      (pss_one (ps_fld (pv 0) (pv 4) rfl))))))), ?_⟩
    obtain ⟨KK, EE, hK0, hE, hw⟩ := cW_gen hw
    have S0 := Sep.startM (M := [p_self]) sG (all_cons (some_ne h_self) all_nil) gM
    unfold F_SliceHeader___init__ at hw
    refine vv_chain (ta := (tC (V.int 0))) (tb := (tVar 2)) (tc := (tC (V.int 999))) (r := (rI0 fun i j => V.bl (decide (i ≤ j)))) (r' := (rI0 fun i j => V.bl (decide (i ≤ j)))) (x := V.int (0)) (y := V.int (number')) (z := V.int (999)) (a := decide (0 ≤ number')) (b := decide (number' ≤ 999)) ?hx281 ?hy282 ?hz283 (fun Q q => ⟨_, _, rfl, rfl, q⟩) (fun Q q => ⟨_, _, rfl, rfl, q⟩) _ ?_
    case hx281 => exact val_c
    case hy282 => exact (val_var rfl)
    case hz283 => exact val_c
    refine ⟨rfl, rfl, G, _, _, rfl, S0.sG, cW_call hw (fun v284 hw => ?_) (fun e he => hE e he _ (sameX_of S0.base))⟩
    refine ⟨fun σ H' => ∃ (G' : Hp), σ = [some (V.ref p_self), some (V.ref p_settings), some (V.int (number')), some (V.int (index')), some (V.int (delta'))] ∧ Same G G' ∧ Sep [p_self] H G G' H' [p_self] ∧ H' p_self = some (.ins AD.c_SliceHeader dx_self []) ∧ cW (F_SliceHeader___init___k1 (number') (index') (delta') ) KK EE, ?_, ?_⟩
    · obtain ⟨K288, hK289, hw⟩ := cW_push hw
      refine ⟨_, rfl, _, _, rfl, rfl, _, rfl, ?_⟩
      refine iteD (fun c290 => ?_) (fun c290 => ?_)
      · have hw := cW_pos c290 hw
        refine ⟨_, rfl, _, _, _, rfl, (S0.bM _ _ h_p_settings), rfl, rfl, rfl, G, _, _, _, _, settings', rfl, S0.sG, (hide_nil (S0.bM _ _ h_p_settings)), (hide_nil (S0.bM _ _ h_p_settings_fmt)), cW_call hw (fun v291 hw H292 e293 => ?_) (fun e he H2 e2 => hE e he H2 (fun b o h n => e2 _ _ ((sameX_of S0.base) b o h n)))⟩
        have S294 := S0.same e293
        refine ⟨_, _, rfl, rfl, rfl, rfl, G, _, _, rfl, S294.sG, cW_call hw (fun v295 hw => ?_) (fun e he => hE e he _ (sameX_of S294.base))⟩
        have hw := cW_ok hw
        have hw := hK289 _ hw
        have h296 := (e293 _ _ h_self)
        exact ⟨_, rfl, (Same.refl _), S294, h296, hw⟩
      · have hw := cW_neg c290 hw
        refine ⟨rfl, rfl, G, _, _, rfl, S0.sG, cW_call hw (fun v297 hw => ?_) (fun e he => hE e he _ (sameX_of S0.base))⟩
        have hw := cW_ok hw
        have hw := hK289 _ hw
        exact ⟨_, rfl, (Same.refl _), S0, h_self, hw⟩
    · intro σ H298 hw
      obtain ⟨G301, rfl, eG302, S299, h300, hw⟩ := hw
      unfold F_SliceHeader___init___k1 at hw
      refine vv_chain (ta := (tUn (rU fun i => V.int (-i)) (tC (V.int 31)))) (tb := (tVar 4)) (tc := (tC (V.int 31))) (r := (rI0 fun i j => V.bl (decide (i ≤ j)))) (r' := (rI0 fun i j => V.bl (decide (i ≤ j)))) (x := V.int ((-31))) (y := V.int (delta')) (z := V.int (31)) (a := decide ((-31) ≤ delta')) (b := decide (delta' ≤ 31)) ?hx303 ?hy304 ?hz305 (fun Q q => ⟨_, _, rfl, rfl, q⟩) (fun Q q => ⟨_, _, rfl, rfl, q⟩) _ ?_
      case hx303 => exact (vv_un val_c (fun Q q => ⟨_, rfl, q⟩))
      case hy304 => exact (val_var rfl)
      case hz305 => exact val_c
      refine ⟨rfl, rfl, G301, _, _, rfl, S299.sG, cW_call hw (fun v306 hw => ?_) (fun e he => hE e he _ (sameX_of S299.base))⟩
      refine ⟨_, rfl, _, rfl, _, _, _, _, rfl, h300, T.cl_SliceHeader, T.n_SliceHeader_number, (by show 0 < 1000; decide), ?_⟩
      generalize g307 : upd H298 p_self _ = H308
      obtain ⟨x309, h310⟩ := gen_mut g307
      have h311 : H308 p_self = some (.ins AD.c_SliceHeader dx_self [("number", V.int (number'))]) := h310
      have S312 := S299.mut1 x309 (.head _) h311
      refine ⟨_, rfl, _, rfl, _, _, _, _, rfl, h311, T.cl_SliceHeader, T.n_SliceHeader_index, (by show 1 < 1000; decide), ?_⟩
      generalize g313 : upd H308 p_self _ = H314
      obtain ⟨x315, h316⟩ := gen_mut g313
      have h317 : H314 p_self = some (.ins AD.c_SliceHeader dx_self [("number", V.int (number')), ("index", V.int (index'))]) := h316
      have S318 := S312.mut1 x315 (.head _) h317
      refine ⟨_, rfl, _, rfl, _, _, _, _, rfl, h317, T.cl_SliceHeader, T.n_SliceHeader_delta, (by show 2 < 1000; decide), ?_⟩
      generalize g319 : upd H314 p_self _ = H320
      obtain ⟨x321, h322⟩ := gen_mut g319
      have h323 : H320 p_self = some (.ins AD.c_SliceHeader dx_self [("number", V.int (number')), ("index", V.int (index')), ("delta", V.int (delta'))]) := h322
      have S324 := S318.mut1 x321 (.head _) h323
      have hw := cW_ok hw
      exact hK0 _ hw _ (sameX_of S324.base) h323

abbrev N_SliceHeader___eq__ : List Str := ["self", "other"]
theorem sc_SliceHeader___eq__ : FnScope N_SliceHeader___eq__ ["self", "other"] (defScope s_SliceHeader___eq__) := ⟨rfl, rfl, rfl, by decide +kernel, rfl, by decide +kernel, by decide +kernel⟩
theorem ok_SliceHeader___eq__ (D : MethX K AD.c_SliceHeader "SliceHeader.__eq__" "__eq__" s_SliceHeader___eq__ ["self", "other"] pats_SliceHeader___eq__) (T : Txt w K mg AD)  : MetX P w K mg base 1 AD.c_SliceHeader "__eq__" (sp_SliceHeader___eq__ K AD) pats_SliceHeader___eq__ := by
  refine D.ok T.cl_SliceHeader sc_SliceHeader___eq__ (fun vs H Q E h => ?_) (fun f cdv A_ outer s H vs Q E hr h => ?_)
  · obtain ⟨G, p_self, dx_self, self', p_other, dx_other, other', rfl, _⟩ := h
    rfl
  · obtain ⟨G, p_self, dx_self, self', p_other, dx_other, other', rfl, sG, h_p_self, h_p_other, hw⟩ := h
    refine ⟨_, (pss_one (ps_ret (pe_and (pe_callB call_isi (by rfl) T.b_isinstance (by decide +kernel) (pa_cons (pv 1) (pa_cons (C8.pe_gc (v := V.ref AD.c_SliceHeader) rfl ⟨_, T.cg_SliceHeader, rfl⟩) pa_nil))) (pe_and (pe_cmp (pc_eqI (fldK (K := K) (pv 0)) (fldK (K := K) (pv 1)))) (pe_and (pe_cmp (pc_eqI (fldK (K := K) (pv 0)) (fldK (K := K) (pv 1)))) (pe_one (pe_cmp (pc_eqI (fldK (K := K) (pv 0)) (fldK (K := K) (pv 1)))))))))), ?_⟩
    obtain ⟨KK, EE, hK0, hE, hw⟩ := cW_gen hw
    have S0 := Sep.startG sG
    unfold F_SliceHeader___eq__ at hw
    refine ⟨_, rfl, _, _, _, _, _, rfl, (.own _), (tyX_ins (S0.bM _ _ h_p_other) T.cl_SliceHeader T.ci_SliceHeader), kit_self, _, rfl, ?_⟩
    refine iteT ?_
    refine ⟨_, rfl, _, _, _, _, _, rfl, (S0.bM _ _ h_p_self), T.cl_SliceHeader, T.n_SliceHeader_number, rfl, _, rfl, _, _, _, _, _, rfl, (S0.bM _ _ h_p_other), T.cl_SliceHeader, T.n_SliceHeader_number, rfl, _, _, rfl, rfl, _, rfl, ?_⟩
    refine iteB (fun c325 => ?_) (fun c325 => ?_)
    · have hw := cW_pos c325 hw
      refine ⟨_, rfl, _, _, _, _, _, rfl, (S0.bM _ _ h_p_self), T.cl_SliceHeader, T.n_SliceHeader_index, rfl, _, rfl, _, _, _, _, _, rfl, (S0.bM _ _ h_p_other), T.cl_SliceHeader, T.n_SliceHeader_index, rfl, _, _, rfl, rfl, _, rfl, ?_⟩
      refine iteB (fun c326 => ?_) (fun c326 => ?_)
      · have hw := cW_pos c326 hw
        refine ⟨_, rfl, _, _, _, _, _, rfl, (S0.bM _ _ h_p_self), T.cl_SliceHeader, T.n_SliceHeader_delta, rfl, _, rfl, _, _, _, _, _, rfl, (S0.bM _ _ h_p_other), T.cl_SliceHeader, T.n_SliceHeader_delta, rfl, _, _, rfl, rfl, ?_⟩
        have hw := cW_ok hw
        exact hK0 _ hw _ S0.b0
      · have hw := cW_negB c326 hw
        have hw := cW_ok hw
        exact hK0 _ hw _ S0.b0
    · have hw := cW_negB c325 hw
      have hw := cW_ok hw
      exact hK0 _ hw _ S0.b0

abbrev N__law_packed : List Str := ["bits", "k", "j"]
theorem sc__law_packed : FnScope N__law_packed ["bits"] (defScope s__law_packed) := ⟨rfl, rfl, rfl, by decide +kernel, rfl, by decide +kernel, by decide +kernel⟩
theorem ok__law_packed (D : DefX K mg "_law_packed" s__law_packed ["bits"] pats__law_packed) (T : Txt w K mg AD)  : CalX P w K mg base 1 "_law_packed" (sp__law_packed K AD) pats__law_packed := by
  refine D.ok sc__law_packed (fun vs H Q E h => ?_) (fun f cdv A_ outer s H vs Q E hr h => ?_)
  · obtain ⟨G, a_bits, bits', rfl, _⟩ := h
    rfl
  · obtain ⟨G, a_bits, bits', rfl, sG, q_bits, hw⟩ := h
    refine ⟨_, (pss_cons (ps_set (i := 0) sc__law_packed.nd rfl (Or.inr rfl) (pe_op op_cat (pv 0) (pe_lst (pa_cons pe_int pa_nil))))
      (pss_cons (ps_set (i := 0) sc__law_packed.nd rfl (Or.inr rfl) (pe_op op_cat (pv 0) (pe_op op_rep (pe_lst (pa_cons pe_int pa_nil)) (pe_op op_mod (pe_op op_sub pe_int (pe_op op_mod (pe_callB (call_lenLiK (K := K)) (by rfl) T.b_len (by decide +kernel) (pa_cons (pv 0) pa_nil)) pe_int)) pe_int))))
      (pss_one (ps_ret (pe_lc (own := [("k", 1)]) (g := gName 1) (by rfl) sc__law_packed.nd (pi_range1 rfl T.b_range (pa_cons (pe_op op_fdivW (pe_callB (call_lenLiK (K := K)) (by rfl) T.b_len (by decide +kernel) (pa_cons (pv 0) pa_nil)) pe_int) pa_nil)) (blkOk_by (own := [("k", 1)]) (N := N__law_packed) (sc := defScope s__law_packed) (by decide +kernel)) (fun _ _ _ _ _ => (pg_name (i := 1) sc__law_packed.nd rfl (Or.inr rfl))) (fun _ _ _ _ _ => pts_nil) (fun _ _ _ _ _ => (pe_callB (cr_sumK (K := K) rfl) (by rfl) T.b_sum (by decide +kernel) (pa_cons (pe_lc (own := [("j", 2)]) (g := gName 2) (by rfl) sc__law_packed.nd (pi_range1 rfl T.b_range (pa_cons pe_int pa_nil)) (blk_relabel (blkOk_by (own := [("j", 2)]) (N := N__law_packed) (by decide +kernel))) (fun _ _ _ _ _ => (pg_name (i := 2) sc__law_packed.nd rfl (Or.inl rfl))) (fun _ _ _ _ _ => pts_nil) (fun _ _ _ _ _ => (pe_op op_shlW (pe_ix (ix_listK (K := K)) (pv 0) (pe_op op_add (pe_op op_mul pe_int (pv 1)) (pv 2)) (fun _ _ => rfl)) (pe_op op_sub pe_int (pv 2))))) pa_nil)))))))), ?_⟩
    obtain ⟨KK, EE, hK0, hE, hw⟩ := cW_gen hw
    have S0 := Sep.startG sG
    unfold F__law_packed at hw
    refine ⟨_, rfl, (by show 1 ≤ sizeLine; decide), fun p327 n328 => ?_⟩
    generalize g329 : upd H p327 _ = H330
    obtain ⟨e331, h332⟩ := gen_new n328 g329
    have h333 : H330 p327 = some (.lst (([1] : (List Int)).map V.int)) := h332
    have fr334 := S0.free n328
    have S335 := S0.new n328 e331 h333 fr334
    obtain ⟨g336, hw⟩ := cW_grd hw
    refine ⟨_, _, _, _, rfl, rfl, (S335.bM _ _ q_bits), h333, (cat_lenM g336), fun p337 n338 => ?_⟩
    generalize g339 : upd H330 p337 _ = H340
    obtain ⟨e341, h342⟩ := gen_new n338 g339
    have h343 : H340 p337 = some (.lst (((bits') ++ ([1]) : (List Int)).map V.int)) := cat_map h342
    have fr344 := S335.free n338
    have S345 := S335.new n338 e341 h343 fr344
    refine ⟨_, rfl, (by show 1 ≤ sizeLine; decide), fun p346 n347 => ?_⟩
    generalize g348 : upd H340 p346 _ = H349
    obtain ⟨e350, h351⟩ := gen_new n347 g348
    have h352 : H349 p346 = some (.lst (([0] : (List Int)).map V.int)) := h351
    have fr353 := S345.free n347
    have S354 := S345.new n347 e350 h352 fr353
    have h355 := (e350 _ _ h343)
    obtain ⟨g356, hw⟩ := cW_grd hw
    refine ⟨_, rfl, _, _, rfl, (SqL.of h355), _, _, rfl, rfl, (show (0 : Int) < 8 by decide), _, _, rfl, rfl, _, _, rfl, rfl, (show (0 : Int) < 8 by decide), _, _, _, rfl, rfl, h352, g356.1, g356.2.1, (rep_lenM g356.2.2), fun p357 n358 => ?_⟩
    generalize g359 : upd H349 p357 _ = H360
    obtain ⟨e361, h362⟩ := gen_new n358 g359
    have h363 : H360 p357 = some (.lst ((repL ([0]) (((8 - (((((bits') ++ ([1])) : (List Int)).length : Int) % 8)) % 8)) : (List Int)).map V.int)) := rep_map h362
    have fr364 := S354.free n358
    have S365 := S354.new n358 e361 h363 fr364
    obtain ⟨g366, hw⟩ := cW_grd hw
    have h367 := (e361 _ _ h355)
    refine ⟨_, _, _, _, rfl, rfl, h367, h363, (cat_lenM g366), fun p368 n369 => ?_⟩
    generalize g370 : upd H360 p368 _ = H371
    obtain ⟨e372, h373⟩ := gen_new n369 g370
    have h374 : H371 p368 = some (.lst ((((bits') ++ ([1])) ++ (repL ([0]) (((8 - (((((bits') ++ ([1])) : (List Int)).length : Int) % 8)) % 8))) : (List Int)).map V.int)) := cat_map h373
    have fr375 := S365.free n369
    have S376 := S365.new n369 e372 h374 fr375
    obtain ⟨g377, hw⟩ := cW_grd hw
    obtain ⟨K380, hK381, hw⟩ := cW_push hw
    refine ⟨_, rfl, _, _, rfl, (SqL.of h374), _, _, rfl, rfl, (divW_lit (by decide) (by decide)), _, rfl, g377.1, g377.2, fun D382 n383 => lc_range (lo := 0) (n := Int.toNat (((((((bits') ++ ([1])) ++ (repL ([0]) (((8 - (((((bits') ++ ([1])) : (List Int)).length : Int) % 8)) % 8)))) : (List Int)).length : Int) / 8))) (fun i H' => ∃ (G' : Hp) (acc385 : (List Int)), Same G G' ∧ Sep [] H G G' H' [D382, p368] ∧ H' p368 = some (.lst ((((bits') ++ ([1])) ++ (repL ([0]) (((8 - (((((bits') ++ ([1])) : (List Int)).length : Int) % 8)) % 8))) : (List Int)).map V.int)) ∧ H' D382 = some (.lst ((acc385 : (List Int)).map V.int)) ∧ Same H371 H' ∧ cW (mapA (List.drop i (rng (0) (Int.toNat (((((((bits') ++ ([1])) ++ (repL ([0]) (((8 - (((((bits') ++ ([1])) : (List Int)).length : Int) % 8)) % 8)))) : (List Int)).length : Int) / 8))))) acc385 (fun x => noEr (F__law_packed_c1 (((bits') ++ ([1])) ++ (repL ([0]) (((8 - (((((bits') ++ ([1])) : (List Int)).length : Int) % 8)) % 8)))) x))) K380 EE) ?_ ?_ ?_⟩
    · generalize g387 : upd H371 D382 _ = H388
      obtain ⟨e389, h390⟩ := gen_new n383 g387
      have fr391 := S376.free n383
      have S392 := S376.new n383 e389 h390 fr391
      have h393 := (e389 _ _ h374)
      exact ⟨_, [], Same.refl _, (S392.sub (all_cons (.head _) (all_cons (.tail _ (.head _)) all_nil))), h393, h390, e389, hw⟩
    · intro i H394 hi hw
      obtain ⟨G397, acc399, eG398, S395, h406, h396, eo405, hw⟩ := hw
      obtain ⟨z407, hw⟩ := cW_mapA (rng_get hi) hw
      generalize (0 + (i : Int)) = x408 at hw ⊢
      have hw := cW_noEr hw
      have hw : cW (F__law_packed_c1 (((bits') ++ ([1])) ++ (repL ([0]) (((8 - (((((bits') ++ ([1])) : (List Int)).length : Int) % 8)) % 8)))) (x408)) _ (fun _ => False) := hw
      unfold F__law_packed_c1 at hw
      refine ⟨rfl, ?_⟩
      refine tyes_go ?_
      obtain ⟨K413, hK414, hw⟩ := cW_push hw
      refine ⟨_, rfl, (by decide), (by decide), fun D415 n416 => lc_range (lo := 0) (n := Int.toNat (8)) (fun i2 H' => ∃ (G' : Hp) (acc418 : (List Int)), Same G397 G' ∧ Sep [] H G G' H' [D415, p368, D382] ∧ H' p368 = some (.lst ((((bits') ++ ([1])) ++ (repL ([0]) (((8 - (((((bits') ++ ([1])) : (List Int)).length : Int) % 8)) % 8))) : (List Int)).map V.int)) ∧ H' D382 = some (.lst ((acc399 : (List Int)).map V.int)) ∧ H' D415 = some (.lst ((acc418 : (List Int)).map V.int)) ∧ Same H394 H' ∧ cW (mapA (List.drop i2 (rng (0) (Int.toNat (8)))) acc418 (fun x => noEr (F__law_packed_c2 (((bits') ++ ([1])) ++ (repL ([0]) (((8 - (((((bits') ++ ([1])) : (List Int)).length : Int) % 8)) % 8)))) (x408) x))) K413 (fun _ => False)) ?_ ?_ ?_⟩
      · generalize g420 : upd H394 D415 _ = H421
        obtain ⟨e422, h423⟩ := gen_new n416 g420
        have fr424 := S395.free n416
        have S425 := S395.new n416 e422 h423 fr424
        have h426 := (e422 _ _ h406)
        have h427 := (e422 _ _ h396)
        exact ⟨_, [], Same.refl _, (S425.sub (all_cons (.head _) (all_cons (.tail _ (.tail _ (.head _))) (all_cons (.tail _ (.head _)) all_nil)))), h426, h427, h423, e422, hw⟩
      · intro i2 H428 hi hw
        obtain ⟨G431, acc433, eG432, S429, h440, h441, h430, eo439, hw⟩ := hw
        obtain ⟨z442, hw⟩ := cW_mapA (rng_get hi) hw
        generalize (0 + (i2 : Int)) = x443 at hw ⊢
        have hw := cW_noEr hw
        have hw : cW (F__law_packed_c2 (((bits') ++ ([1])) ++ (repL ([0]) (((8 - (((((bits') ++ ([1])) : (List Int)).length : Int) % 8)) % 8)))) (x408) (x443)) _ (fun _ => False) := hw
        unfold F__law_packed_c2 at hw
        refine ⟨rfl, ?_⟩
        refine tyes_go ?_
        obtain ⟨g445, hw⟩ := cW_grd hw
        obtain ⟨g446, hw⟩ := cW_grd hw
        refine ⟨_, rfl, _, rfl, _, _, rfl, rfl, (.inl ⟨by decide, by decide⟩), _, rfl, _, _, rfl, rfl, _, _, _, _, rfl, rfl, (SqL.of h440), (atI_map g445), _, rfl, _, _, rfl, rfl, _, _, rfl, rfl, (shl_side g446.1 g446.2.1 g446.2.2.1 g446.2.2.2), _, h430, (app_lenM z442), ?_⟩
        generalize g447 : upd H428 D415 _ = H448
        obtain ⟨x449, h450⟩ := gen_mut g447
        have S451 := S429.mut1 x449 (.head _) h450
        have hw := cW_ok hw
        have h452 := (x449 _ _ h440 (ne_of_none h406 n416))
        have h453 := (x449 _ _ h441 (ne_of_none h396 n416))
        exact ⟨_, (acc433 ++ [((itD (((bits') ++ ([1])) ++ (repL ([0]) (((8 - (((((bits') ++ ([1])) : (List Int)).length : Int) % 8)) % 8)))) (((8 * x408) + x443))) * 2 ^ Int.toNat ((7 - x443)))]), eG432, S451, h452, h453, (snoc_map h450), (same_mut eo439 x449 n416), hw⟩
      intro H454 hw
      obtain ⟨G457, acc459, eG458, S455, h466, h467, h456, eo465, hw⟩ := hw
      have hw := hK414 _ (cW_mapA0 (rng_len _ _).symm hw)
      have fr468 := S395.free n416
      refine ⟨_, _, rfl, (SqL.of h456), _, h467, (app_lenM z407), ?_⟩
      generalize g469 : upd H454 D382 _ = H470
      obtain ⟨x471, h472⟩ := gen_mut g469
      have S473 := S455.mut1 x471 (.tail _ (.tail _ (.head _))) h472
      have hw := cW_ok hw
      have h474 := (x471 _ _ h466 (ne_of_none h374 n383))
      exact ⟨_, (acc399 ++ [(List.sum (acc459))]), (Same.trans eG398 eG458), (S473.sub (all_cons (.tail _ (.tail _ (.head _))) (all_cons (.tail _ (.head _)) all_nil))), h474, (snoc_map h472), (same_mut (Same.trans eo405 eo465) x471 n383), hw⟩
    intro H475 hw
    obtain ⟨G478, acc480, eG479, S476, h487, h477, eo486, hw⟩ := hw
    have hw := hK381 _ (cW_mapA0 (rng_len _ _).symm hw)
    have fr488 := S376.free n383
    have hw := cW_ok hw
    exact hK0 _ hw _ _ fr488 S476.b0 h477

abbrev N_BitWriter___init__ : List Str := ["self"]
theorem sc_BitWriter___init__ : FnScope N_BitWriter___init__ ["self"] (defScope s_BitWriter___init__) := ⟨rfl, rfl, rfl, by decide +kernel, rfl, by decide +kernel, by decide +kernel⟩
theorem ok_BitWriter___init__ (D : InitX K mg AD.c_BitWriter "BitWriter" "BitWriter.__init__" s_BitWriter___init__ ["self"] pats_BitWriter___init__) (T : Txt w K mg AD)  : MakX P w K mg base 1 "BitWriter" AD.c_BitWriter (sp_BitWriter___init__ K AD) pats_BitWriter___init__ := by
  refine D.ok sc_BitWriter___init__ (fun vs H Q E h => ?_) (fun f cdv A_ outer s H vs Q E hr h => ?_)
  · obtain ⟨G, p_self, dx_self, rfl, _⟩ := h
    rfl
  · obtain ⟨G, p_self, dx_self, rfl, sG, gM, h_self, hw⟩ := h
    refine ⟨_, (pss_cons (ps_fld (pv 0) (pe_lst pa_nil) rfl)
      (pss_cons (ps_fld (pv 0) pe_int rfl)
      (pss_one (ps_fld (pv 0) pe_int rfl)))), ?_⟩
    obtain ⟨KK, EE, hK0, hE, hw⟩ := cW_gen hw
    have S0 := Sep.startM (M := [p_self]) sG (all_cons (some_ne h_self) all_nil) gM
    unfold F_BitWriter___init__ at hw
    refine ⟨(by show 0 ≤ sizeLine; decide), fun p489 n490 => ?_⟩
    generalize g491 : upd H p489 _ = H492
    obtain ⟨e493, h494⟩ := gen_new n490 g491
    have h495 : H492 p489 = some (.lst ((([] : (List Int)) : (List Int)).map V.int)) := h494
    have fr496 := S0.free n490
    have S497 := S0.new n490 e493 h495 fr496
    have h498 := (e493 _ _ h_self)
    refine ⟨_, rfl, _, _, _, _, rfl, h498, T.cl_BitWriter, T.n_BitWriter__full, (by show 0 < 1000; decide), ?_⟩
    generalize g499 : upd H492 p_self _ = H500
    obtain ⟨x501, h502⟩ := gen_mut g499
    have h503 : H500 p_self = some (.ins AD.c_BitWriter dx_self [("_full", V.ref p489)]) := h502
    have S504 := S497.mut1 x501 (.tail _ (.head _)) h503
    refine ⟨_, rfl, _, _, _, _, rfl, h503, T.cl_BitWriter, T.n_BitWriter__rest, (by show 1 < 1000; decide), ?_⟩
    generalize g505 : upd H500 p_self _ = H506
    obtain ⟨x507, h508⟩ := gen_mut g505
    have h509 : H506 p_self = some (.ins AD.c_BitWriter dx_self [("_full", V.ref p489), ("_rest", V.int (0))]) := h508
    have S510 := S504.mut1 x507 (.tail _ (.head _)) h509
    refine ⟨_, rfl, _, _, _, _, rfl, h509, T.cl_BitWriter, T.n_BitWriter__rest_bits, (by show 2 < 1000; decide), ?_⟩
    generalize g511 : upd H506 p_self _ = H512
    obtain ⟨x513, h514⟩ := gen_mut g511
    have h515 : H512 p_self = some (.ins AD.c_BitWriter dx_self [("_full", V.ref p489), ("_rest", V.int (0)), ("_rest_bits", V.int (0))]) := h514
    have S516 := S510.mut1 x513 (.tail _ (.head _)) h515
    have h517 := (x513 _ _ (x507 _ _ (x501 _ _ h495 (ne_of_none h_self n490).symm) (ne_of_none h_self n490).symm) (ne_of_none h_self n490).symm)
    have hw := cW_ok hw
    exact hK0 _ hw _ _ (sameX_of S516.base) fr496 h515 h517

abbrev N_BitWriter__add : List Str := ["self", "value", "count", "rest", "left"]
theorem sc_BitWriter__add : FnScope N_BitWriter__add ["self", "value", "count"] (defScope s_BitWriter__add) := ⟨rfl, rfl, rfl, by decide +kernel, rfl, by decide +kernel, by decide +kernel⟩
theorem ok_BitWriter__add (D : MethX K AD.c_BitWriter "BitWriter._add" "_add" s_BitWriter__add ["self", "value", "count"] pats_BitWriter__add) (T : Txt w K mg AD)  : MetX P w K mg base 1 AD.c_BitWriter "_add" (sp_BitWriter__add K AD) pats_BitWriter__add := by
  refine D.ok T.cl_BitWriter sc_BitWriter__add (fun vs H Q E h => ?_) (fun f cdv A_ outer s H vs Q E hr h => ?_)
  · obtain ⟨G, p_self, l_self_full, dx_self, self', value', count', rfl, _⟩ := h
    rfl
  · obtain ⟨G, p_self, l_self_full, dx_self, self', value', count', rfl, sG, gM, h_p_self, h_l_self_full, hw⟩ := h
    refine ⟨_, (pss_cons (ps_set (i := 3) sc_BitWriter__add.nd rfl (Or.inl rfl) (pe_op op_or (pe_op op_shlW (fldK (K := K) (pv 0)) (pv 2)) (pv 1)))
      (pss_cons (ps_set (i := 4) sc_BitWriter__add.nd rfl (Or.inl rfl) (pe_op op_add (fldK (K := K) (pv 0)) (pv 2)))
      (pss_cons (ps_while (passes_of rfl) (pt_cmp (pc_ge (pv 4) pe_int)) (pss_cons (ps_aug (i := 4) sc_BitWriter__add.nd rfl (Or.inl rfl) pe_int (pip iop_sub))
      (pss_cons (ps_expr (pe_bm PySem.F.plainAttrs_list PySem.F.slot_list_append PySem.F.type_list_append mt_append (fldK (K := K) (pv 0)) (pa_cons (pe_op op_shr (pv 3) (pv 4)) pa_nil)))
      (pss_one (ps_aug (i := 3) sc_BitWriter__add.nd rfl (Or.inl rfl) (pe_op op_sub (pe_op op_shlW pe_int (pv 4)) pe_int) (pip iop_and))))))
      (pss_cons (ps_fld (pv 0) (pv 3) rfl)
      (pss_one (ps_fld (pv 0) (pv 4) rfl)))))), ?_⟩
    obtain ⟨KK, EE, hK0, hE, hw⟩ := cW_gen hw
    have S0 := Sep.startM (M := [p_self, l_self_full]) sG (all_cons (some_ne h_p_self) (all_cons (some_ne h_l_self_full) all_nil)) gM
    unfold F_BitWriter__add at hw
    obtain ⟨g518, hw⟩ := cW_grd hw
    refine ⟨_, rfl, _, _, _, _, _, rfl, h_p_self, T.cl_BitWriter, T.n_BitWriter__rest, rfl, _, rfl, _, _, rfl, rfl, (shl_side g518.1 g518.2.1 g518.2.2.1 g518.2.2.2), _, rfl, _, _, rfl, rfl, ?_⟩
    have hw := cW_bnd hw
    refine ⟨_, rfl, _, _, _, _, _, rfl, h_p_self, T.cl_BitWriter, T.n_BitWriter__rest_bits, rfl, _, rfl, _, _, rfl, rfl, ?_⟩
    have hw := cW_bnd hw
    obtain ⟨K521, hK522, hw⟩ := cW_push hw
    refine ⟨fun m σ H' => ∃ (self_523 : St_BitWriter) (rest_524 : Int) (left_525 : Int) (G' : Hp), σ = [some (V.ref p_self), some (V.int (value')), some (V.int (count')), some (V.int rest_524), some (V.int left_525)] ∧ Same G G' ∧ Sep [p_self, l_self_full] H G G' H' [p_self, l_self_full] ∧ H' p_self = some (.ins AD.c_BitWriter dx_self [("_full", V.ref l_self_full), ("_rest", V.int (self_523.rest)), ("_rest_bits", V.int (self_523.bits))]) ∧ H' l_self_full = some (.lst ((self_523.full : (List Int)).map V.int)) ∧ cW (whileR m (self_523, rest_524, left_525) (fun s => F_BitWriter__add_b1  (s.1) (s.2.1) (s.2.2))) K521 EE, ?_, ?_⟩
    · exact ⟨_, ⟨(self'), ((PySem.Builtin.bitOr ((self'.rest * 2 ^ Int.toNat (count'))) (value'))), ((self'.bits + count')), _, rfl, (Same.refl _), S0, h_p_self, h_l_self_full, hw⟩⟩
    · intro m σ H526 hw
      obtain ⟨self_523, rest_524, left_525, G530, rfl, eG531, S527, h528, h529, hw⟩ := hw
      obtain ⟨m532, rfl, hw2⟩ := cW_whileR hw
      have hw := hw2
      have hw : cW (F_BitWriter__add_b1  (self_523) (rest_524) (left_525)) _ EE := hw
      unfold F_BitWriter__add_b1 at hw
      obtain ⟨K536, hK537, hw⟩ := cW_name hw
      refine ⟨_, rfl, _, _, rfl, rfl, _, rfl, ?_⟩
      refine iteD (fun c538 => ?_) (fun c538 => ?_)
      · have hw := cW_pos c538 hw
        refine ⟨(fun σ H' => ∃ m, (∃ (self_523 : St_BitWriter) (rest_524 : Int) (left_525 : Int) (G' : Hp), σ = [some (V.ref p_self), some (V.int (value')), some (V.int (count')), some (V.int rest_524), some (V.int left_525)] ∧ Same G G' ∧ Sep [p_self, l_self_full] H G G' H' [p_self, l_self_full] ∧ H' p_self = some (.ins AD.c_BitWriter dx_self [("_full", V.ref l_self_full), ("_rest", V.int (self_523.rest)), ("_rest_bits", V.int (self_523.bits))]) ∧ H' l_self_full = some (.lst ((self_523.full : (List Int)).map V.int)) ∧ cW (whileR m (self_523, rest_524, left_525) (fun s => F_BitWriter__add_b1  (s.1) (s.2.1) (s.2.2))) K521 EE) ∧ m < m532 + 1), (fun _ _ ⟨m', a, b⟩ => ⟨m', b, a⟩), ?_⟩
        refine ⟨_, rfl, _, _, rfl, rfl, ?_⟩
        have hw := cW_bnd hw
        obtain ⟨g540, hw⟩ := cW_grd hw
        obtain ⟨g541, hw⟩ := cW_grd hw
        refine ⟨_, rfl, _, _, _, _, _, rfl, h528, T.cl_BitWriter, T.n_BitWriter__full, rfl, (.inl ⟨rfl, _, SqL.of h529⟩), _, rfl, _, rfl, _, _, rfl, rfl, g540, _, _, _, rfl, rfl, h529, (app_lenM g541), ?_⟩
        generalize g542 : upd H526 l_self_full _ = H543
        obtain ⟨x544, h545⟩ := gen_mut g542
        have h546 : H543 l_self_full = some (.lst (((self_523.full) ++ [(rest_524 / 2 ^ Int.toNat ((left_525 - 8)))] : (List Int)).map V.int)) := snoc_map h545
        have S547 := S527.mut1 x544 (.tail _ (.head _)) h546
        have hw := cW_bnd hw
        obtain ⟨g549, hw⟩ := cW_grd hw
        refine ⟨_, rfl, _, rfl, _, _, rfl, rfl, (shl_side g549.1 g549.2.1 g549.2.2.1 g549.2.2.2), _, _, rfl, rfl, _, _, rfl, rfl, ?_⟩
        have hw := cW_bnd hw
        have hw := cW_ok hw
        have hw := hK537 _ hw
        have h551 := (x544 _ _ h528 (ne_of h528 h529 (fun z => nomatch z)))
        exact ⟨m532, ⟨((⟨(self_523.full) ++ [(rest_524 / 2 ^ Int.toNat ((left_525 - 8)))], self_523.rest, self_523.bits⟩ : St_BitWriter)), ((PySem.Builtin.bitAnd (rest_524) (((1 * 2 ^ Int.toNat ((left_525 - 8))) - 1)))), ((left_525 - 8)), _, rfl, eG531, S547, h551, h546, hw⟩, Nat.lt_succ_self _⟩
      · have hw := cW_neg c538 hw
        have hw := cW_ok hw
        have hw := hK537 _ hw
        have hw := cW_aftgo (hK522 (.go _) hw)
        have hw : cW (F_BitWriter__add_r1  (self_523) (rest_524) (left_525)) _ EE := hw
        unfold F_BitWriter__add_r1 at hw
        refine ⟨_, rfl, _, rfl, _, _, _, _, rfl, h528, T.cl_BitWriter, T.n_BitWriter__rest, (by show 3 < 1000; decide), ?_⟩
        generalize g555 : upd H526 p_self _ = H556
        obtain ⟨x557, h558⟩ := gen_mut g555
        have h559 : H556 p_self = some (.ins AD.c_BitWriter dx_self [("_full", V.ref l_self_full), ("_rest", V.int (rest_524)), ("_rest_bits", V.int (self_523.bits))]) := h558
        have S560 := S527.mut1 x557 (.head _) h559
        refine ⟨_, rfl, _, rfl, _, _, _, _, rfl, h559, T.cl_BitWriter, T.n_BitWriter__rest_bits, (by show 3 < 1000; decide), ?_⟩
        generalize g561 : upd H556 p_self _ = H562
        obtain ⟨x563, h564⟩ := gen_mut g561
        have h565 : H562 p_self = some (.ins AD.c_BitWriter dx_self [("_full", V.ref l_self_full), ("_rest", V.int (rest_524)), ("_rest_bits", V.int (left_525))]) := h564
        have S566 := S560.mut1 x563 (.head _) h565
        have h567 := (x563 _ _ (x557 _ _ h529 (ne_of h529 h528 (fun z => nomatch z))) (ne_of h529 h528 (fun z => nomatch z)))
        have hw := cW_ok hw
        exact hK0 _ hw _ S566.base h565 h567

abbrev N_BitWriter_put_ue : List Str := ["self", "value", "digits"]
theorem sc_BitWriter_put_ue : FnScope N_BitWriter_put_ue ["self", "value"] (defScope s_BitWriter_put_ue) := ⟨rfl, rfl, rfl, by decide +kernel, rfl, by decide +kernel, by decide +kernel⟩
theorem ok_BitWriter_put_ue (D : MethX K AD.c_BitWriter "BitWriter.put_ue" "put_ue" s_BitWriter_put_ue ["self", "value"] pats_BitWriter_put_ue) (T : Txt w K mg AD) (c_BitWriter__add : MetX P w K mg base 1 AD.c_BitWriter "_add" (sp_BitWriter__add K AD) pats_BitWriter__add) : MetX P w K mg base 2 AD.c_BitWriter "put_ue" (sp_BitWriter_put_ue K AD) pats_BitWriter_put_ue := by
  refine D.ok T.cl_BitWriter sc_BitWriter_put_ue (fun vs H Q E h => ?_) (fun f cdv A_ outer s H vs Q E hr h => ?_)
  · obtain ⟨G, p_self, l_self_full, dx_self, self', value', rfl, _⟩ := h
    rfl
  · obtain ⟨G, p_self, l_self_full, dx_self, self', value', rfl, sG, gM, h_p_self, h_l_self_full, hw⟩ := h
    refine ⟨_, (pss_cons (ps_if (pt_not (pt_chain op_le op_le pe_int (pv 1) (pe_op op_pow pe_int pe_int))) (pss_one (ps_raise rfl (takes_of rfl rfl rfl rfl) (pmk_own PySem.F.excBase_ValueError T.xx_OutOfRange T.xg_OutOfRange T.xk_OutOfRange (raises_own T.xb_OutOfRange T.xt_OutOfRange) rfl))) pss_nil)
      (pss_cons (ps_set (i := 2) sc_BitWriter_put_ue.nd rfl (Or.inl rfl) (pe_bits (pe_op op_add (pv 1) pe_int)))
      (pss_one (ps_expr (vx_methX c_BitWriter__add pat_BitWriter__add_0 (.head _) hr (by decide) (takes_of rfl rfl rfl rfl) (pv 0) (pa_cons (pe_op op_add (pv 1) pe_int) (pa_cons (pe_op op_sub (pe_op op_mul pe_int (pv 2)) pe_int) pa_nil)) pk_nil))))), ?_⟩
    obtain ⟨KK, EE, hK0, hE, hw⟩ := cW_gen hw
    have S0 := Sep.startM (M := [p_self, l_self_full]) sG (all_cons (some_ne h_p_self) (all_cons (some_ne h_l_self_full) all_nil)) gM
    unfold F_BitWriter_put_ue at hw
    refine ⟨_, rfl, _, _, rfl, rfl, _, rfl, ?_⟩
    refine iteD (fun c568 => ?_) (fun c568 => ?_)
    · have hw := cW_pos c568 hw
      refine ⟨_, _, rfl, rfl, ⟨by decide, by decide, by decide⟩, _, _, rfl, rfl, _, rfl, ?_⟩
      refine iteN (fun c569 => ?_) (fun c569 => ?_)
      · have hw := cW_neg c569 hw
        exact hE 2 (cW_er hw) _ (Same.refl _)
      · have hw := cW_pos c569 hw
        refine ⟨_, rfl, _, _, rfl, rfl, _, rfl, ?_⟩
        have hw := cW_bnd hw
        refine ⟨_, rfl, _, _, _, rfl, h_p_self, rfl, _, rfl, _, _, rfl, rfl, _, rfl, _, _, rfl, rfl, (.inl ⟨by decide, by decide⟩), _, _, rfl, rfl, rfl, rfl, G, _, _, _, self', _, _, rfl, S0.sG, (S0.gno (all_cons (.head _) (all_cons (.tail _ (.head _)) all_nil))), h_p_self, h_l_self_full, cW_call hw (fun v571 hw H572 x573 h575 h576  => ?_) (fun e he H2 e2 => hE e he H2 (Same.trans (Same.refl _) e2))⟩
        have S574 := S0.mut x573 (all_cons (.head _) (all_cons (.tail _ (.head _)) all_nil)) (all_cons (some_ne h575) (all_cons (some_ne h576) all_nil))
        have hw := cW_ok hw
        exact hK0 _ hw _ S574.base h575 h576
    · have hw := cW_neg c568 hw
      refine ⟨_, rfl, ?_⟩
      refine iteT ?_
      exact hE 2 (cW_er hw) _ (Same.refl _)

abbrev N_BitWriter_put_se : List Str := ["self", "value"]
theorem sc_BitWriter_put_se : FnScope N_BitWriter_put_se ["self", "value"] (defScope s_BitWriter_put_se) := ⟨rfl, rfl, rfl, by decide +kernel, rfl, by decide +kernel, by decide +kernel⟩
theorem ok_BitWriter_put_se (D : MethX K AD.c_BitWriter "BitWriter.put_se" "put_se" s_BitWriter_put_se ["self", "value"] pats_BitWriter_put_se) (T : Txt w K mg AD) (c_BitWriter_put_ue : MetX P w K mg base 2 AD.c_BitWriter "put_ue" (sp_BitWriter_put_ue K AD) pats_BitWriter_put_ue) : MetX P w K mg base 3 AD.c_BitWriter "put_se" (sp_BitWriter_put_se K AD) pats_BitWriter_put_se := by
  refine D.ok T.cl_BitWriter sc_BitWriter_put_se (fun vs H Q E h => ?_) (fun f cdv A_ outer s H vs Q E hr h => ?_)
  · obtain ⟨G, p_self, l_self_full, dx_self, self', value', rfl, _⟩ := h
    rfl
  · obtain ⟨G, p_self, l_self_full, dx_self, self', value', rfl, sG, gM, h_p_self, h_l_self_full, hw⟩ := h
    refine ⟨_, (pss_one (ps_expr (vx_methX c_BitWriter_put_ue pat_BitWriter_put_ue_0 (.head _) hr (by decide) (takes_of rfl rfl rfl rfl) (pv 0) (pa_cons (pe_ifExp (pt_cmp (pc_gt (pv 1) pe_int)) (pe_op op_sub (pe_op op_mul pe_int (pv 1)) pe_int) (pe_op op_mul (pe_un un_neg pe_int) (pv 1))) pa_nil) pk_nil))), ?_⟩
    obtain ⟨KK, EE, hK0, hE, hw⟩ := cW_gen hw
    have S0 := Sep.startM (M := [p_self, l_self_full]) sG (all_cons (some_ne h_p_self) (all_cons (some_ne h_l_self_full) all_nil)) gM
    unfold F_BitWriter_put_se at hw
    refine ⟨_, rfl, _, _, _, rfl, h_p_self, rfl, ?_⟩
    refine vv_if (p := 0 < value') (ta := (tOp (rI0 fun i j => V.int (i - j)) (tOp (rI CMul fun i j => V.int (i * j)) (tC (V.int 2)) (tVar 1)) (tC (V.int 1)))) (tb := (tOp (rI CMul fun i j => V.int (i * j)) (tUn (rU fun i => V.int (-i)) (tC (V.int 2))) (tVar 1))) (t := tB (tGt (tVar 1) (tC (V.int 0)))) (a := ((2 * value') - 1)) (b := ((-2) * value')) ?hx581 ?hy582 ?hz583 _ ?_
    case hx581 => exact vt_cmp (vv_cmp (val_var rfl) val_c (fun Q q => ⟨_, _, rfl, rfl, q⟩))
    case hy582 => exact (val_op (val_op val_c (val_var rfl) (fun Q q => ⟨_, _, rfl, rfl, (.inl ⟨by decide, by decide⟩), q⟩)) val_c (fun Q q => ⟨_, _, rfl, rfl, q⟩))
    case hz583 => exact (val_op (vv_un val_c (fun Q q => ⟨_, rfl, q⟩)) (val_var rfl) (fun Q q => ⟨_, _, rfl, rfl, (.inl ⟨by decide, by decide⟩), q⟩))
    refine ⟨rfl, rfl, G, _, _, _, self', _, rfl, S0.sG, (S0.gno (all_cons (.head _) (all_cons (.tail _ (.head _)) all_nil))), h_p_self, h_l_self_full, cW_call hw (fun v584 hw H585 x586 h588 h589  => ?_) (fun e he H2 e2 => hE e he H2 (Same.trans (Same.refl _) e2))⟩
    have S587 := S0.mut x586 (all_cons (.head _) (all_cons (.tail _ (.head _)) all_nil)) (all_cons (some_ne h588) (all_cons (some_ne h589) all_nil))
    have hw := cW_ok hw
    exact hK0 _ hw _ S587.base h588 h589

abbrev N_BitWriter_octets : List Str := ["self", "free"]
theorem sc_BitWriter_octets : FnScope N_BitWriter_octets ["self"] (defScope s_BitWriter_octets) := ⟨rfl, rfl, rfl, by decide +kernel, rfl, by decide +kernel, by decide +kernel⟩
theorem ok_BitWriter_octets (D : MethX K AD.c_BitWriter "BitWriter.octets" "octets" s_BitWriter_octets ["self"] pats_BitWriter_octets) (T : Txt w K mg AD)  : MetX P w K mg base 1 AD.c_BitWriter "octets" (sp_BitWriter_octets K AD) pats_BitWriter_octets := by
  refine D.ok T.cl_BitWriter sc_BitWriter_octets (fun vs H Q E h => ?_) (fun f cdv A_ outer s H vs Q E hr h => ?_)
  · obtain ⟨G, p_self, l_self_full, dx_self, self', rfl, _⟩ := h
    rfl
  · obtain ⟨G, p_self, l_self_full, dx_self, self', rfl, sG, h_p_self, h_l_self_full, hw⟩ := h
    refine ⟨_, (pss_cons (ps_set (i := 1) sc_BitWriter_octets.nd rfl (Or.inl rfl) (pe_op op_sub pe_int (fldK (K := K) (pv 0))))
      (pss_one (ps_ret (pe_op op_cat (fldK (K := K) (pv 0)) (pe_lst (pa_cons (pe_op op_shlW (pe_op op_add (pe_op op_mul pe_int (fldK (K := K) (pv 0))) pe_int) (pv 1)) pa_nil)))))), ?_⟩
    obtain ⟨KK, EE, hK0, hE, hw⟩ := cW_gen hw
    have S0 := Sep.startG sG
    unfold F_BitWriter_octets at hw
    refine ⟨_, rfl, _, _, _, _, _, rfl, (S0.bM _ _ h_p_self), T.cl_BitWriter, T.n_BitWriter__rest_bits, rfl, _, _, rfl, rfl, ?_⟩
    have hw := cW_bnd hw
    obtain ⟨g595, hw⟩ := cW_grd hw
    refine ⟨_, rfl, _, _, _, _, _, rfl, (S0.bM _ _ h_p_self), T.cl_BitWriter, T.n_BitWriter__full, rfl, _, rfl, _, _, _, _, _, rfl, (S0.bM _ _ h_p_self), T.cl_BitWriter, T.n_BitWriter__rest, rfl, _, _, rfl, rfl, (.inl ⟨by decide, by decide⟩), _, _, rfl, rfl, _, rfl, _, _, rfl, rfl, (shl_side g595.1 g595.2.1 g595.2.2.1 g595.2.2.2), (by show 1 ≤ sizeLine; decide), fun p596 n597 => ?_⟩
    generalize g598 : upd H p596 _ = H599
    obtain ⟨e600, h601⟩ := gen_new n597 g598
    have h602 : H599 p596 = some (.lst (([(((2 * self'.rest) + 1) * 2 ^ Int.toNat ((7 - self'.bits)))] : (List Int)).map V.int)) := h601
    have fr603 := S0.free n597
    have S604 := S0.new n597 e600 h602 fr603
    obtain ⟨g605, hw⟩ := cW_grd hw
    refine ⟨_, _, _, _, rfl, rfl, (S604.bM _ _ h_l_self_full), h602, (cat_lenM g605), fun p606 n607 => ?_⟩
    generalize g608 : upd H599 p606 _ = H609
    obtain ⟨e610, h611⟩ := gen_new n607 g608
    have h612 : H609 p606 = some (.lst (((self'.full) ++ ([(((2 * self'.rest) + 1) * 2 ^ Int.toNat ((7 - self'.bits)))]) : (List Int)).map V.int)) := cat_map h611
    have fr613 := S604.free n607
    have S614 := S604.new n607 e610 h612 fr613
    have hw := cW_ok hw
    exact hK0 _ hw _ _ fr613 S614.b0 h612

abbrev N_write_slice : List Str := ["settings", "header", "code", "writer", "head"]
theorem sc_write_slice : FnScope N_write_slice ["settings", "header", "code"] (defScope s_write_slice) := ⟨rfl, rfl, rfl, by decide +kernel, rfl, by decide +kernel, by decide +kernel⟩
theorem ok_write_slice (D : DefX K mg "write_slice" s_write_slice ["settings", "header", "code"] pats_write_slice) (T : Txt w K mg AD) (c_BitWriter___init__ : MakX P w K mg base 1 "BitWriter" AD.c_BitWriter (sp_BitWriter___init__ K AD) pats_BitWriter___init__) (c_BitWriter_put_ue : MetX P w K mg base 2 AD.c_BitWriter "put_ue" (sp_BitWriter_put_ue K AD) pats_BitWriter_put_ue) (c_BitWriter_put_se : MetX P w K mg base 3 AD.c_BitWriter "put_se" (sp_BitWriter_put_se K AD) pats_BitWriter_put_se) (c_BitWriter_octets : MetX P w K mg base 1 AD.c_BitWriter "octets" (sp_BitWriter_octets K AD) pats_BitWriter_octets) : CalX P w K mg base 4 "write_slice" (sp_write_slice K AD) pats_write_slice := by
  refine D.ok sc_write_slice (fun vs H Q E h => ?_) (fun f cdv A_ outer s H vs Q E hr h => ?_)
  · obtain ⟨G, p_settings, p_settings_fmt, dx_settings, dx_settings_fmt, settings', p_header, dx_header, header', a_code, code', rfl, _⟩ := h
    rfl
  · obtain ⟨G, p_settings, p_settings_fmt, dx_settings, dx_settings_fmt, settings', p_header, dx_header, header', a_code, code', rfl, sG, h_p_settings, h_p_settings_fmt, h_p_header, q_code, hw⟩ := h
    refine ⟨_, (pss_cons (ps_set (i := 3) sc_write_slice.nd rfl (Or.inl rfl) (vx_makeX0 c_BitWriter___init__ pat_BitWriter___init___0 (.head _) hr (by decide) (takes_of rfl rfl rfl rfl) rfl))
      (pss_cons (ps_expr (vx_methX c_BitWriter_put_ue pat_BitWriter_put_ue_0 (.head _) hr (by decide) (takes_of rfl rfl rfl rfl) (pv 3) (pa_cons (fldK (K := K) (pv 1)) pa_nil) pk_nil))
      (pss_cons (ps_expr (vx_methX c_BitWriter_put_ue pat_BitWriter_put_ue_0 (.head _) hr (by decide) (takes_of rfl rfl rfl rfl) (pv 3) (pa_cons (fldK (K := K) (pv 1)) pa_nil) pk_nil))
      (pss_cons (ps_expr (vx_methX c_BitWriter_put_se pat_BitWriter_put_se_0 (.head _) hr (by decide) (takes_of rfl rfl rfl rfl) (pv 3) (pa_cons (fldK (K := K) (pv 1)) pa_nil) pk_nil))
      (pss_cons (ps_set (i := 4) sc_write_slice.nd rfl (Or.inl rfl) (vx_methX0 c_BitWriter_octets pat_BitWriter_octets_0 (.head _) hr (by decide) (takes_of rfl rfl rfl rfl) (pv 3)))
      (pss_one (ps_ret (pe_op op_cat (pe_op op_cat (pe_lst (pa_cons (pe_callB (call_lenLiK (K := K)) (by rfl) T.b_len (by decide +kernel) (pa_cons (pv 4) pa_nil)) pa_nil)) (pv 4)) (pv 2))))))))), ?_⟩
    obtain ⟨KK, EE, hK0, hE, hw⟩ := cW_gen hw
    have S0 := Sep.startG sG
    unfold F_write_slice at hw
    refine ⟨rfl, rfl, fun x615 dx616 n617 n618 n619 => ?_⟩
    generalize g620 : upd (upd H dx616 _) x615 _ = H621
    obtain ⟨e622, h623⟩ := gen_obj n617 n618 n619 g620
    have fr624 := S0.free n617
    have S625 := S0.new n617 e622 h623 fr624
    refine ⟨G, _, _, rfl, S625.sG, (S625.gno (all_cons (.head _) all_nil)), h623, cW_call hw (fun v626 hw H628 l627 x629 n633 h630 h632 => ⟨rfl, ?_⟩) (fun e he H2 e2 => hE e he H2 (Same.trans S0.b0 (same_mut e622 e2 n617)))⟩
    have fr634 := S625.free n633
    have S631 : Sep _ _ _ _ H628 [l627, x615] := Sep.init S625 x629 (.head _) h630 [l627] (all_cons ⟨n633, some_ne h632, fr634⟩ all_nil)
    refine ⟨_, rfl, _, _, _, rfl, h630, rfl, _, rfl, _, _, _, _, _, rfl, (S631.bM _ _ h_p_header), T.cl_SliceHeader, T.n_SliceHeader_number, rfl, rfl, rfl, G, _, _, _, v626, _, rfl, S631.sG, (S631.gno (all_cons (.tail _ (.head _)) (all_cons (.head _) all_nil))), h630, h632, cW_call hw (fun v635 hw H636 x637 h639 h640  => ?_) (fun e he H2 e2 => hE e he H2 (Same.trans S631.b0 e2))⟩
    have S638 := S631.mut x637 (all_cons (.tail _ (.head _)) (all_cons (.head _) all_nil)) (all_cons (some_ne h639) (all_cons (some_ne h640) all_nil))
    refine ⟨_, rfl, _, _, _, rfl, h639, rfl, _, rfl, _, _, _, _, _, rfl, (S638.bM _ _ h_p_header), T.cl_SliceHeader, T.n_SliceHeader_index, rfl, rfl, rfl, G, _, _, _, v635, _, rfl, S638.sG, (S638.gno (all_cons (.tail _ (.head _)) (all_cons (.head _) all_nil))), h639, h640, cW_call hw (fun v645 hw H646 x647 h649 h650  => ?_) (fun e he H2 e2 => hE e he H2 (Same.trans S638.b0 e2))⟩
    have S648 := S638.mut x647 (all_cons (.tail _ (.head _)) (all_cons (.head _) all_nil)) (all_cons (some_ne h649) (all_cons (some_ne h650) all_nil))
    refine ⟨_, rfl, _, _, _, rfl, h649, rfl, _, rfl, _, _, _, _, _, rfl, (S648.bM _ _ h_p_header), T.cl_SliceHeader, T.n_SliceHeader_delta, rfl, rfl, rfl, G, _, _, _, v645, _, rfl, S648.sG, (S648.gno (all_cons (.tail _ (.head _)) (all_cons (.head _) all_nil))), h649, h650, cW_call hw (fun v655 hw H656 x657 h659 h660  => ?_) (fun e he H2 e2 => hE e he H2 (Same.trans S648.b0 e2))⟩
    have S658 := S648.mut x657 (all_cons (.tail _ (.head _)) (all_cons (.head _) all_nil)) (all_cons (some_ne h659) (all_cons (some_ne h660) all_nil))
    refine ⟨_, rfl, _, _, _, rfl, h659, rfl, rfl, rfl, G, _, _, _, v655, rfl, S658.sG, (hide_nil h659), (hide_nil h660), cW_call hw (fun v665 hw p668 H666 n669 e667 h670 => ?_) (fun e he H2 e2 => hE e he H2 (Same.trans S658.b0 e2))⟩
    have h671 : H666 p668 = some (.lst ((v665 : (List Int)).map V.int)) := h670
    have fr672 := S658.free n669
    have S673 := S658.new n669 e667 h671 fr672
    refine ⟨_, rfl, _, _, rfl, (SqL.of h671), (by show 1 ≤ sizeLine; decide), fun p674 n675 => ?_⟩
    generalize g676 : upd H666 p674 _ = H677
    obtain ⟨e678, h679⟩ := gen_new n675 g676
    have h680 : H677 p674 = some (.lst (([(((v665) : (List Int)).length : Int)] : (List Int)).map V.int)) := h679
    have fr681 := S673.free n675
    have S682 := S673.new n675 e678 h680 fr681
    obtain ⟨g683, hw⟩ := cW_grd hw
    have h684 := (e678 _ _ h671)
    refine ⟨_, rfl, _, _, _, _, rfl, rfl, h680, h684, (cat_lenM g683), fun p685 n686 => ?_⟩
    generalize g687 : upd H677 p685 _ = H688
    obtain ⟨e689, h690⟩ := gen_new n686 g687
    have h691 : H688 p685 = some (.lst ((([(((v665) : (List Int)).length : Int)]) ++ (v665) : (List Int)).map V.int)) := cat_map h690
    have fr692 := S682.free n686
    have S693 := S682.new n686 e689 h691 fr692
    obtain ⟨g694, hw⟩ := cW_grd hw
    refine ⟨_, rfl, _, _, _, _, rfl, rfl, h691, (S693.bM _ _ q_code), (cat_lenM g694), fun p695 n696 => ?_⟩
    generalize g697 : upd H688 p695 _ = H698
    obtain ⟨e699, h700⟩ := gen_new n696 g697
    have h701 : H698 p695 = some (.lst (((([(((v665) : (List Int)).length : Int)]) ++ (v665)) ++ (code') : (List Int)).map V.int)) := cat_map h700
    have fr702 := S693.free n696
    have S703 := S693.new n696 e699 h701 fr702
    have hw := cW_ok hw
    exact hK0 _ hw _ _ fr702 S703.b0 h701

abbrev N__last_bit : List Str := ["octet", "bits"]
theorem sc__last_bit : FnScope N__last_bit ["octet"] (defScope s__last_bit) := ⟨rfl, rfl, rfl, by decide +kernel, rfl, by decide +kernel, by decide +kernel⟩
theorem ok__last_bit (D : DefX K mg "_last_bit" s__last_bit ["octet"] pats__last_bit) (T : Txt w K mg AD)  : CalX P w K mg base 1 "_last_bit" (sp__last_bit K AD) pats__last_bit := by
  refine D.ok sc__last_bit (fun vs H Q E h => ?_) (fun f cdv A_ outer s H vs Q E hr h => ?_)
  · obtain ⟨G, octet', rfl, _⟩ := h
    rfl
  · obtain ⟨G, octet', rfl, sG, hw⟩ := h
    refine ⟨_, (pss_cons (ps_set (i := 1) sc__last_bit.nd rfl (Or.inl rfl) pe_int)
      (pss_cons (ps_while (passes_of rfl) (pt_cmp (pc_eqI (pe_op op_and (pe_op op_shr (pv 0) (pe_op op_sub (pv 1) pe_int)) pe_int) pe_int)) (pss_one (ps_aug (i := 1) sc__last_bit.nd rfl (Or.inl rfl) pe_int (pip iop_add))))
      (pss_one (ps_ret (pv 1))))), ?_⟩
    obtain ⟨KK, EE, hK0, hE, hw⟩ := cW_gen hw
    have S0 := Sep.startG sG
    unfold F__last_bit at hw
    obtain ⟨K705, hK706, hw⟩ := cW_push hw
    refine ⟨fun m σ H' => ∃ (bits_707 : Int) (G' : Hp), σ = [some (V.int (octet')), some (V.int bits_707)] ∧ Same G G' ∧ Sep [] H G G' H' [] ∧ cW (whileR m bits_707 (fun s => F__last_bit_b1 (octet') s)) K705 EE, ?_, ?_⟩
    · exact ⟨_, ⟨(1), _, rfl, (Same.refl _), S0, hw⟩⟩
    · intro m σ H708 hw
      obtain ⟨bits_707, G710, rfl, eG711, S709, hw⟩ := hw
      obtain ⟨m712, rfl, hw2⟩ := cW_whileR hw
      have hw := hw2
      have hw : cW (F__last_bit_b1 (octet') (bits_707)) _ EE := hw
      unfold F__last_bit_b1 at hw
      obtain ⟨K714, hK715, hw⟩ := cW_name hw
      obtain ⟨g716, hw⟩ := cW_grd hw
      refine ⟨_, rfl, _, rfl, _, _, rfl, rfl, _, _, rfl, rfl, g716, _, _, rfl, rfl, _, _, rfl, rfl, _, rfl, ?_⟩
      refine iteD (fun c717 => ?_) (fun c717 => ?_)
      · have hw := cW_pos c717 hw
        refine ⟨(fun σ H' => ∃ m, (∃ (bits_707 : Int) (G' : Hp), σ = [some (V.int (octet')), some (V.int bits_707)] ∧ Same G G' ∧ Sep [] H G G' H' [] ∧ cW (whileR m bits_707 (fun s => F__last_bit_b1 (octet') s)) K705 EE) ∧ m < m712 + 1), (fun _ _ ⟨m', a, b⟩ => ⟨m', b, a⟩), ?_⟩
        refine ⟨_, rfl, _, _, rfl, rfl, ?_⟩
        have hw := cW_bnd hw
        have hw := cW_ok hw
        have hw := hK715 _ hw
        exact ⟨m712, ⟨((bits_707 + 1)), _, rfl, eG711, S709, hw⟩, Nat.lt_succ_self _⟩
      · have hw := cW_neg c717 hw
        have hw := cW_ok hw
        have hw := hK715 _ hw
        have hw := cW_aftgo (hK706 (.go _) hw)
        have hw : cW (F__last_bit_r1  (bits_707)) _ EE := hw
        unfold F__last_bit_r1 at hw
        refine ⟨_, rfl, ?_⟩
        have hw := cW_ok hw
        exact hK0 _ hw _ S709.b0

abbrev N_BitReader___init__ : List Str := ["self", "octets"]
theorem sc_BitReader___init__ : FnScope N_BitReader___init__ ["self", "octets"] (defScope s_BitReader___init__) := ⟨rfl, rfl, rfl, by decide +kernel, rfl, by decide +kernel, by decide +kernel⟩
theorem ok_BitReader___init__ (D : InitX K mg AD.c_BitReader "BitReader" "BitReader.__init__" s_BitReader___init__ ["self", "octets"] pats_BitReader___init__) (T : Txt w K mg AD) (c__last_bit : CalX P w K mg base 1 "_last_bit" (sp__last_bit K AD) pats__last_bit) : MakX P w K mg base 2 "BitReader" AD.c_BitReader (sp_BitReader___init__ K AD) pats_BitReader___init__ := by
  refine D.ok sc_BitReader___init__ (fun vs H Q E h => ?_) (fun f cdv A_ outer s H vs Q E hr h => ?_)
  · obtain ⟨G, p_self, dx_self, a_octets, octets', rfl, _⟩ := h
    rfl
  · obtain ⟨G, p_self, dx_self, a_octets, octets', rfl, sG, gM, h_self, q_octets, hw⟩ := h
    refine ⟨_, (pss_cons (ps_if (PW.pt (pw_or (pt_not (pt_truth (pv 1) (fun _ => rfl))) (pw_or1 (pt_cmp (pc_eqI (pe_ix (ix_listK (K := K)) (pv 1) (pe_un un_neg pe_int) (fun _ _ => rfl)) pe_int))))) (pss_one (ps_raise rfl (takes_of rfl rfl rfl rfl) (pmk_own PySem.F.excBase_ValueError T.xx_BadOctets T.xg_BadOctets T.xk_BadOctets (raises_own T.xb_BadOctets T.xt_BadOctets) rfl))) pss_nil)
      (pss_cons (ps_fld (pv 0) (pe_callTy (call_listLK (K := K)) (by rfl) T.b_list (by decide +kernel) (pa_cons (pv 1) pa_nil)) rfl)
      (pss_cons (ps_fld (pv 0) pe_int rfl)
      (pss_one (ps_fld (pv 0) (pe_op op_sub (pe_op op_mul pe_int (pe_callB (call_lenLiK (K := K)) (by rfl) T.b_len (by decide +kernel) (pa_cons (pv 1) pa_nil))) (vx_callX c__last_bit pat__last_bit_0 (.head _) hr (by decide) (takes_of rfl rfl rfl rfl) rfl (pa_cons (pe_ix (ix_listK (K := K)) (pv 1) (pe_un un_neg pe_int) (fun _ _ => rfl)) pa_nil) pk_nil)) rfl))))), ?_⟩
    obtain ⟨KK, EE, hK0, hE, hw⟩ := cW_gen hw
    have S0 := Sep.startM (M := [p_self]) sG (all_cons (some_ne h_self) all_nil) gM
    unfold F_BitReader___init__ at hw
    refine ⟨_, rfl, _, (.inl ⟨_, (SqL.of (S0.bM _ _ q_octets)), tru_map⟩), ?_⟩
    refine iteNN ?_
    refine iteD (fun c720 => ?_) (fun c720 => ?_)
    · have hw := cW_pos c720 hw
      refine iteT ?_
      exact hE 4 (cW_er hw) _ (sameX_of S0.base)
    · have hw := cW_neg c720 hw
      obtain ⟨g721, hw⟩ := cW_grd hw
      refine ⟨_, rfl, _, rfl, _, _, _, _, rfl, rfl, (SqL.of (S0.bM _ _ q_octets)), (atI_map g721), _, _, rfl, rfl, _, rfl, ?_⟩
      refine iteD (fun c722 => ?_) (fun c722 => ?_)
      · have hw := cW_pos c722 hw
        exact hE 4 (cW_er hw) _ (sameX_of S0.base)
      · have hw := cW_neg c722 hw
        refine ⟨_, rfl, _, _, rfl, (SqL.of (S0.bM _ _ q_octets)), fun p723 n724 => ?_⟩
        generalize g725 : upd H p723 _ = H726
        obtain ⟨e727, h728⟩ := gen_new n724 g725
        have h729 : H726 p723 = some (.lst ((octets' : (List Int)).map V.int)) := h728
        have fr730 := S0.free n724
        have S731 := S0.new n724 e727 h729 fr730
        have h732 := (e727 _ _ h_self)
        refine ⟨_, rfl, _, _, _, _, rfl, h732, T.cl_BitReader, T.n_BitReader__octets, (by show 0 < 1000; decide), ?_⟩
        generalize g733 : upd H726 p_self _ = H734
        obtain ⟨x735, h736⟩ := gen_mut g733
        have h737 : H734 p_self = some (.ins AD.c_BitReader dx_self [("_octets", V.ref p723)]) := h736
        have S738 := S731.mut1 x735 (.tail _ (.head _)) h737
        refine ⟨_, rfl, _, _, _, _, rfl, h737, T.cl_BitReader, T.n_BitReader__place, (by show 1 < 1000; decide), ?_⟩
        generalize g739 : upd H734 p_self _ = H740
        obtain ⟨x741, h742⟩ := gen_mut g739
        have h743 : H740 p_self = some (.ins AD.c_BitReader dx_self [("_octets", V.ref p723), ("_place", V.int (0))]) := h742
        have S744 := S738.mut1 x741 (.tail _ (.head _)) h743
        obtain ⟨g745, hw⟩ := cW_grd hw
        refine ⟨_, rfl, _, _, rfl, (SqL.of (S744.bM _ _ q_octets)), _, _, rfl, rfl, (.inl ⟨by decide, by decide⟩), _, rfl, _, rfl, _, _, _, _, rfl, rfl, (SqL.of (S744.bM _ _ q_octets)), (atI_map g745), rfl, rfl, G, _, rfl, S744.sG, cW_call hw (fun v746 hw H747 e748 => ?_) (fun e he H2 e2 => hE e he H2 (fun b o h n => e2 _ _ ((sameX_of S744.base) b o h n)))⟩
        have S749 := S744.same e748
        have h750 := (e748 _ _ h743)
        have hw := cW_bnd hw
        refine ⟨_, _, rfl, rfl, _, rfl, _, _, _, _, rfl, h750, T.cl_BitReader, T.n_BitReader__end, (by show 2 < 1000; decide), ?_⟩
        generalize g752 : upd H747 p_self _ = H753
        obtain ⟨x754, h755⟩ := gen_mut g752
        have h756 : H753 p_self = some (.ins AD.c_BitReader dx_self [("_octets", V.ref p723), ("_place", V.int (0)), ("_end", V.int (((8 * (((octets') : (List Int)).length : Int)) - v746)))]) := h755
        have S757 := S749.mut1 x754 (.tail _ (.head _)) h756
        have h758 := (x754 _ _ (e748 _ _ (x741 _ _ (x735 _ _ h729 (ne_of_none h_self n724).symm) (ne_of_none h_self n724).symm)) (ne_of_none h_self n724).symm)
        have hw := cW_ok hw
        exact hK0 _ hw _ _ (sameX_of S757.base) fr730 h756 h758

abbrev N_BitReader__look : List Str := ["self", "place", "count", "end", "value", "octet"]
theorem sc_BitReader__look : FnScope N_BitReader__look ["self", "place", "count"] (defScope s_BitReader__look) := ⟨rfl, rfl, rfl, by decide +kernel, rfl, by decide +kernel, by decide +kernel⟩
theorem ok_BitReader__look (D : MethX K AD.c_BitReader "BitReader._look" "_look" s_BitReader__look ["self", "place", "count"] pats_BitReader__look) (T : Txt w K mg AD)  : MetX P w K mg base 1 AD.c_BitReader "_look" (sp_BitReader__look K AD) pats_BitReader__look := by
  refine D.ok T.cl_BitReader sc_BitReader__look (fun vs H Q E h => ?_) (fun f cdv A_ outer s H vs Q E hr h => ?_)
  · obtain ⟨G, p_self, l_self_octs, dx_self, self', place', count', rfl, _⟩ := h
    rfl
  · obtain ⟨G, p_self, l_self_octs, dx_self, self', place', count', rfl, sG, h_p_self, h_l_self_octs, hw⟩ := h
    refine ⟨_, (pss_cons (ps_set (i := 3) sc_BitReader__look.nd rfl (Or.inl rfl) (pe_op op_add (pv 1) (pv 2)))
      (pss_cons (ps_if (pt_cmp (pc_gt (pv 3) (fldK (K := K) (pv 0)))) (pss_one (ps_raise rfl (takes_of rfl rfl rfl rfl) (pmk_own PySem.F.excBase_ValueError T.xx_OutOfBits T.xg_OutOfBits T.xk_OutOfBits (raises_own T.xb_OutOfBits T.xt_OutOfBits) rfl))) pss_nil)
      (pss_cons (ps_set (i := 4) sc_BitReader__look.nd rfl (Or.inl rfl) pe_int)
      (pss_cons (ps_for (passes_of rfl) rfl (pi_listK (K := K) (pe_slice (sl_listK (K := K)) (fldK (K := K) (pv 0)) (po_some (pe_op op_fdivW (pv 1) pe_int)) (po_some (pe_op op_fdivW (pe_op op_add (pv 3) pe_int) pe_int)))) (pg_name (i := 5) sc_BitReader__look.nd rfl (Or.inl rfl)) (pss_one (ps_set (i := 4) sc_BitReader__look.nd rfl (Or.inl rfl) (pe_op op_or (pe_op op_shlW (pv 4) pe_int) (pv 5)))))
      (pss_one (ps_ret (pe_op op_and (pe_op op_shr (pv 4) (pe_op op_and (pe_un un_neg (pv 3)) pe_int)) (pe_op op_sub (pe_op op_shlW pe_int (pv 2)) pe_int)))))))), ?_⟩
    obtain ⟨KK, EE, hK0, hE, hw⟩ := cW_gen hw
    have S0 := Sep.startG sG
    unfold F_BitReader__look at hw
    refine ⟨_, rfl, _, rfl, _, _, rfl, rfl, ?_⟩
    have hw := cW_bnd hw
    refine ⟨_, rfl, _, rfl, _, _, _, _, _, rfl, (S0.bM _ _ h_p_self), T.cl_BitReader, T.n_BitReader__end, rfl, _, _, rfl, rfl, _, rfl, ?_⟩
    refine iteD (fun c760 => ?_) (fun c760 => ?_)
    · have hw := cW_pos c760 hw
      exact hE 3 (cW_er hw) _ S0.b0
    · have hw := cW_neg c760 hw
      refine ⟨_, rfl, _, _, _, _, _, rfl, (S0.bM _ _ h_p_self), T.cl_BitReader, T.n_BitReader__octets, rfl, _, rfl, _, _, rfl, rfl, (divW_lit (by decide) (by decide)), _, rfl, _, rfl, _, _, rfl, rfl, _, _, rfl, rfl, (divW_lit (by decide) (by decide)), _, rfl, _, _, rfl, (SqL.of (S0.bM _ _ h_l_self_octs)), fun p761 n762 => ?_⟩
      generalize g763 : upd H p761 _ = H764
      obtain ⟨e765, h766⟩ := gen_new n762 g763
      have h767 : H764 p761 = some (.lst ((cutL (self'.octs) (some ((place' / 8))) (some ((((place' + count') + 7) / 8))) : (List Int)).map V.int)) := cut_map h766
      have fr768 := S0.free n762
      have S769 := S0.new n762 e765 h767 fr768
      obtain ⟨K772, hK773, hw⟩ := cW_push hw
      refine ⟨_, rfl, ⟨_, (SqL.of h767)⟩, for_list (K := K) (a := p761) (xs := (cutL (self'.octs) (some ((place' / 8))) (some ((((place' + count') + 7) / 8))) : (List Int)).map V.int) (fun i σ H' => ∃ (value_774 : Int) (u775 : Option V) (G' : Hp), σ = [some (V.ref p_self), some (V.int (place')), some (V.int (count')), some (V.int ((place' + count'))), some (V.int value_774), u775] ∧ Same G G' ∧ Sep [] H G G' H' [p761] ∧ H' p761 = some (.lst ((cutL (self'.octs) (some ((place' / 8))) (some ((((place' + count') + 7) / 8))) : (List Int)).map V.int)) ∧ cW (forS (List.drop i (cutL (self'.octs) (some ((place' / 8))) (some ((((place' + count') + 7) / 8))))) value_774 (fun s x => F_BitReader__look_b1  s x)) K772 EE) ?_ ?_ ?_ ?_⟩
      · exact ⟨(0), _, _, rfl, (Same.refl _), S769, h767, hw⟩
      · intro i σ H776 _ hw
        obtain ⟨value_774, u775, G779, rfl, eG780, S777, h778, hw⟩ := hw
        exact (SqL.of h778)
      · intro i x σ H781 hj hw
        obtain ⟨value_774, u775, G784, rfl, eG785, S782, h783, hw⟩ := hw
        obtain ⟨x786, hx, rfl⟩ := map_get hj
        have hw := cW_forS hx hw
        have hw : cW (F_BitReader__look_b1  (value_774) (x786)) _ EE := hw
        unfold F_BitReader__look_b1 at hw
        obtain ⟨K788, hK789, hw⟩ := cW_name hw
        obtain ⟨g791, hw⟩ := cW_grd hw
        refine ⟨_, rfl, _, _, rfl, rfl, (shl_side g791.1 g791.2.1 g791.2.2.1 g791.2.2.2), _, rfl, _, _, rfl, rfl, ?_⟩
        have hw := cW_bnd hw
        have hw := cW_ok hw
        have hw := hK789 _ hw
        exact ⟨((PySem.Builtin.bitOr ((value_774 * 2 ^ Int.toNat (8))) (x786))), _, _, rfl, eG785, S782, h783, hw⟩
      · intro σ H793 hw
        obtain ⟨value_774, u775, G796, rfl, eG797, S794, h795, hw⟩ := hw
        have hw := hK773 _ (cW_forS0 (by rw [List.length_map]) hw)
        have hw : cW (F_BitReader__look_r1 (count') ((place' + count')) (value_774)) _ EE := hw
        unfold F_BitReader__look_r1 at hw
        obtain ⟨g799, hw⟩ := cW_grd hw
        obtain ⟨g800, hw⟩ := cW_grd hw
        refine ⟨_, rfl, _, rfl, _, rfl, _, _, rfl, rfl, _, _, rfl, rfl, g799, _, rfl, _, _, rfl, rfl, (shl_side g800.1 g800.2.1 g800.2.2.1 g800.2.2.2), _, _, rfl, rfl, _, _, rfl, rfl, ?_⟩
        have hw := cW_ok hw
        exact hK0 _ hw _ S794.b0

abbrev N_BitReader__zeros : List Str := ["self", "zeros"]
theorem sc_BitReader__zeros : FnScope N_BitReader__zeros ["self"] (defScope s_BitReader__zeros) := ⟨rfl, rfl, rfl, by decide +kernel, rfl, by decide +kernel, by decide +kernel⟩
theorem ok_BitReader__zeros (D : MethX K AD.c_BitReader "BitReader._zeros" "_zeros" s_BitReader__zeros ["self"] pats_BitReader__zeros) (T : Txt w K mg AD) (c_BitReader__look : MetX P w K mg base 1 AD.c_BitReader "_look" (sp_BitReader__look K AD) pats_BitReader__look) : MetX P w K mg base 2 AD.c_BitReader "_zeros" (sp_BitReader__zeros K AD) pats_BitReader__zeros := by
  refine D.ok T.cl_BitReader sc_BitReader__zeros (fun vs H Q E h => ?_) (fun f cdv A_ outer s H vs Q E hr h => ?_)
  · obtain ⟨G, p_self, l_self_octs, dx_self, self', rfl, _⟩ := h
    rfl
  · obtain ⟨G, p_self, l_self_octs, dx_self, self', rfl, sG, h_p_self, h_l_self_octs, hw⟩ := h
    refine ⟨_, (pss_cons (ps_set (i := 1) sc_BitReader__zeros.nd rfl (Or.inl rfl) pe_int)
      (pss_cons (ps_while (passes_of rfl) (pt_cmp (pc_eqI (vx_methX c_BitReader__look pat_BitReader__look_0 (.head _) hr (by decide) (takes_of rfl rfl rfl rfl) (pv 0) (pa_cons (pe_op op_add (fldK (K := K) (pv 0)) (pv 1)) (pa_cons pe_int pa_nil)) pk_nil) pe_int)) (pss_cons (ps_aug (i := 1) sc_BitReader__zeros.nd rfl (Or.inl rfl) pe_int (pip iop_add))
      (pss_one (ps_if (pt_cmp (pc_gt (pv 1) (C8.pe_gc rfl T.g_MOST_ZEROS))) (pss_one (ps_raise rfl (takes_of rfl rfl rfl rfl) (pmk_own PySem.F.excBase_ValueError T.xx_BadOctets T.xg_BadOctets T.xk_BadOctets (raises_own T.xb_BadOctets T.xt_BadOctets) rfl))) pss_nil))))
      (pss_one (ps_ret (pv 1))))), ?_⟩
    obtain ⟨KK, EE, hK0, hE, hw⟩ := cW_gen hw
    have S0 := Sep.startG sG
    unfold F_BitReader__zeros at hw
    obtain ⟨K802, hK803, hw⟩ := cW_push hw
    refine ⟨fun m σ H' => ∃ (zeros_804 : Int) (G' : Hp), σ = [some (V.ref p_self), some (V.int zeros_804)] ∧ Same G G' ∧ Sep [] H G G' H' [] ∧ cW (whileR m zeros_804 (fun s => F_BitReader__zeros_b1 (self') s)) K802 EE, ?_, ?_⟩
    · exact ⟨_, ⟨(0), _, rfl, (Same.refl _), S0, hw⟩⟩
    · intro m σ H805 hw
      obtain ⟨zeros_804, G807, rfl, eG808, S806, hw⟩ := hw
      obtain ⟨m809, rfl, hw2⟩ := cW_whileR hw
      have hw := hw2
      have hw : cW (F_BitReader__zeros_b1 (self') (zeros_804)) _ EE := hw
      unfold F_BitReader__zeros_b1 at hw
      obtain ⟨K811, hK812, hw⟩ := cW_name hw
      refine ⟨_, rfl, _, _, _, rfl, (S806.bM _ _ h_p_self), rfl, _, rfl, _, _, _, _, _, rfl, (S806.bM _ _ h_p_self), T.cl_BitReader, T.n_BitReader__place, rfl, _, rfl, _, _, rfl, rfl, rfl, rfl, G807, _, _, _, self', _, _, rfl, S806.sG, (hide_nil (S806.bM _ _ h_p_self)), (hide_nil (S806.bM _ _ h_l_self_octs)), cW_call hw (fun v813 hw H814 e815 => ?_) (fun e he H2 e2 => hE e he H2 (Same.trans S806.b0 e2))⟩
      have S816 := S806.same e815
      refine ⟨_, _, rfl, rfl, _, rfl, ?_⟩
      refine iteD (fun c817 => ?_) (fun c817 => ?_)
      · have hw := cW_pos c817 hw
        refine ⟨(fun σ H' => ∃ m, (∃ (zeros_804 : Int) (G' : Hp), σ = [some (V.ref p_self), some (V.int zeros_804)] ∧ Same G G' ∧ Sep [] H G G' H' [] ∧ cW (whileR m zeros_804 (fun s => F_BitReader__zeros_b1 (self') s)) K802 EE) ∧ m < m809 + 1), (fun _ _ ⟨m', a, b⟩ => ⟨m', b, a⟩), ?_⟩
        refine ⟨_, rfl, _, _, rfl, rfl, ?_⟩
        have hw := cW_bnd hw
        refine ⟨_, rfl, _, _, rfl, rfl, _, rfl, ?_⟩
        refine iteD (fun c819 => ?_) (fun c819 => ?_)
        · have hw := cW_pos c819 hw
          exact hE 4 (cW_er hw) _ S816.b0
        · have hw := cW_neg c819 hw
          have hw := cW_ok hw
          have hw := hK812 _ hw
          exact ⟨m809, ⟨((zeros_804 + 1)), _, rfl, eG808, S816, hw⟩, Nat.lt_succ_self _⟩
      · have hw := cW_neg c817 hw
        have hw := cW_ok hw
        have hw := hK812 _ hw
        have hw := cW_aftgo (hK803 (.go _) hw)
        have hw : cW (F_BitReader__zeros_r1  (zeros_804)) _ EE := hw
        unfold F_BitReader__zeros_r1 at hw
        refine ⟨_, rfl, ?_⟩
        have hw := cW_ok hw
        exact hK0 _ hw _ S816.b0

abbrev N_BitReader__take : List Str := ["self", "count", "value"]
theorem sc_BitReader__take : FnScope N_BitReader__take ["self", "count"] (defScope s_BitReader__take) := ⟨rfl, rfl, rfl, by decide +kernel, rfl, by decide +kernel, by decide +kernel⟩
theorem ok_BitReader__take (D : MethX K AD.c_BitReader "BitReader._take" "_take" s_BitReader__take ["self", "count"] pats_BitReader__take) (T : Txt w K mg AD) (c_BitReader__look : MetX P w K mg base 1 AD.c_BitReader "_look" (sp_BitReader__look K AD) pats_BitReader__look) : MetX P w K mg base 2 AD.c_BitReader "_take" (sp_BitReader__take K AD) pats_BitReader__take := by
  refine D.ok T.cl_BitReader sc_BitReader__take (fun vs H Q E h => ?_) (fun f cdv A_ outer s H vs Q E hr h => ?_)
  · obtain ⟨G, p_self, l_self_octs, dx_self, self', count', rfl, _⟩ := h
    rfl
  · obtain ⟨G, p_self, l_self_octs, dx_self, self', count', rfl, sG, gM, h_p_self, h_l_self_octs, hw⟩ := h
    refine ⟨_, (pss_cons (ps_set (i := 2) sc_BitReader__take.nd rfl (Or.inl rfl) (vx_methX c_BitReader__look pat_BitReader__look_0 (.head _) hr (by decide) (takes_of rfl rfl rfl rfl) (pv 0) (pa_cons (fldK (K := K) (pv 0)) (pa_cons (pv 1) pa_nil)) pk_nil))
      (pss_cons (ps_fldaug (pv 0) (pv 1) (pip iop_add))
      (pss_one (ps_ret (pv 2))))), ?_⟩
    obtain ⟨KK, EE, hK0, hE, hw⟩ := cW_gen hw
    have S0 := Sep.startM (M := [p_self, l_self_octs]) sG (all_cons (some_ne h_p_self) (all_cons (some_ne h_l_self_octs) all_nil)) gM
    unfold F_BitReader__take at hw
    refine ⟨_, rfl, _, _, _, rfl, h_p_self, rfl, _, rfl, _, _, _, _, _, rfl, h_p_self, T.cl_BitReader, T.n_BitReader__place, rfl, _, rfl, rfl, rfl, G, _, _, _, self', _, _, rfl, S0.sG, (hide_nil h_p_self), (hide_nil h_l_self_octs), cW_call hw (fun v821 hw H822 e823 => ?_) (fun e he H2 e2 => hE e he H2 (Same.trans (Same.refl _) e2))⟩
    have S824 := S0.same e823
    have h825 := (e823 _ _ h_p_self)
    have hw := cW_bnd hw
    refine ⟨_, rfl, _, _, _, _, _, rfl, h825, T.cl_BitReader, T.n_BitReader__place, rfl, _, rfl, _, _, rfl, rfl, _, _, h825, (by show 3 < 1000; decide), ?_⟩
    generalize g827 : upd H822 p_self _ = H828
    obtain ⟨x829, h830⟩ := gen_mut g827
    have h831 : H828 p_self = some (.ins AD.c_BitReader dx_self [("_octets", V.ref l_self_octs), ("_place", V.int ((self'.place + count'))), ("_end", V.int (self'.stop))]) := h830
    have S832 := S824.mut1 x829 (.head _) h831
    refine ⟨_, rfl, ?_⟩
    have h833 := (x829 _ _ (e823 _ _ h_l_self_octs) (ne_of h_l_self_octs h_p_self (fun z => nomatch z)))
    have hw := cW_ok hw
    exact hK0 _ hw _ S832.base h831 h833

abbrev N_BitReader_get_ue : List Str := ["self", "zeros"]
theorem sc_BitReader_get_ue : FnScope N_BitReader_get_ue ["self"] (defScope s_BitReader_get_ue) := ⟨rfl, rfl, rfl, by decide +kernel, rfl, by decide +kernel, by decide +kernel⟩
theorem ok_BitReader_get_ue (D : MethX K AD.c_BitReader "BitReader.get_ue" "get_ue" s_BitReader_get_ue ["self"] pats_BitReader_get_ue) (T : Txt w K mg AD) (c_BitReader__zeros : MetX P w K mg base 2 AD.c_BitReader "_zeros" (sp_BitReader__zeros K AD) pats_BitReader__zeros) (c_BitReader__take : MetX P w K mg base 2 AD.c_BitReader "_take" (sp_BitReader__take K AD) pats_BitReader__take) : MetX P w K mg base 3 AD.c_BitReader "get_ue" (sp_BitReader_get_ue K AD) pats_BitReader_get_ue := by
  refine D.ok T.cl_BitReader sc_BitReader_get_ue (fun vs H Q E h => ?_) (fun f cdv A_ outer s H vs Q E hr h => ?_)
  · obtain ⟨G, p_self, l_self_octs, dx_self, self', rfl, _⟩ := h
    rfl
  · obtain ⟨G, p_self, l_self_octs, dx_self, self', rfl, sG, gM, h_p_self, h_l_self_octs, hw⟩ := h
    refine ⟨_, (pss_cons (ps_set (i := 1) sc_BitReader_get_ue.nd rfl (Or.inl rfl) (vx_methX0 c_BitReader__zeros pat_BitReader__zeros_0 (.head _) hr (by decide) (takes_of rfl rfl rfl rfl) (pv 0)))
      (pss_one (ps_ret (pe_op op_sub (vx_methX c_BitReader__take pat_BitReader__take_0 (.head _) hr (by decide) (takes_of rfl rfl rfl rfl) (pv 0) (pa_cons (pe_op op_add (pe_op op_mul pe_int (pv 1)) pe_int) pa_nil) pk_nil) pe_int)))), ?_⟩
    obtain ⟨KK, EE, hK0, hE, hw⟩ := cW_gen hw
    have S0 := Sep.startM (M := [p_self, l_self_octs]) sG (all_cons (some_ne h_p_self) (all_cons (some_ne h_l_self_octs) all_nil)) gM
    unfold F_BitReader_get_ue at hw
    refine ⟨_, rfl, _, _, _, rfl, h_p_self, rfl, rfl, rfl, G, _, _, _, self', rfl, S0.sG, (hide_nil h_p_self), (hide_nil h_l_self_octs), cW_call hw (fun v834 hw H835 e836 => ?_) (fun e he H2 e2 => hE e he H2 (Same.trans (Same.refl _) e2))⟩
    have S837 := S0.same e836
    have h838 := (e836 _ _ h_p_self)
    have h839 := (e836 _ _ h_l_self_octs)
    refine ⟨_, rfl, _, _, _, rfl, h838, rfl, _, rfl, _, _, rfl, rfl, (.inl ⟨by decide, by decide⟩), _, _, rfl, rfl, rfl, rfl, G, _, _, _, self', _, rfl, S837.sG, (S837.gno (all_cons (.head _) (all_cons (.tail _ (.head _)) all_nil))), h838, h839, cW_call hw (fun v840 hw H841 x842 h844 h845  => ?_) (fun e he H2 e2 => hE e he H2 (Same.trans e836 e2))⟩
    have S843 := S837.mut x842 (all_cons (.head _) (all_cons (.tail _ (.head _)) all_nil)) (all_cons (some_ne h844) (all_cons (some_ne h845) all_nil))
    refine ⟨_, _, rfl, rfl, ?_⟩
    have hw := cW_ok hw
    exact hK0 _ hw _ S843.base h844 h845

abbrev N_BitReader_get_se : List Str := ["self", "code"]
theorem sc_BitReader_get_se : FnScope N_BitReader_get_se ["self"] (defScope s_BitReader_get_se) := ⟨rfl, rfl, rfl, by decide +kernel, rfl, by decide +kernel, by decide +kernel⟩
theorem ok_BitReader_get_se (D : MethX K AD.c_BitReader "BitReader.get_se" "get_se" s_BitReader_get_se ["self"] pats_BitReader_get_se) (T : Txt w K mg AD) (c_BitReader_get_ue : MetX P w K mg base 3 AD.c_BitReader "get_ue" (sp_BitReader_get_ue K AD) pats_BitReader_get_ue) : MetX P w K mg base 4 AD.c_BitReader "get_se" (sp_BitReader_get_se K AD) pats_BitReader_get_se := by
  refine D.ok T.cl_BitReader sc_BitReader_get_se (fun vs H Q E h => ?_) (fun f cdv A_ outer s H vs Q E hr h => ?_)
  · obtain ⟨G, p_self, l_self_octs, dx_self, self', rfl, _⟩ := h
    rfl
  · obtain ⟨G, p_self, l_self_octs, dx_self, self', rfl, sG, gM, h_p_self, h_l_self_octs, hw⟩ := h
    refine ⟨_, (pss_cons (ps_set (i := 1) sc_BitReader_get_se.nd rfl (Or.inl rfl) (vx_methX0 c_BitReader_get_ue pat_BitReader_get_ue_0 (.head _) hr (by decide) (takes_of rfl rfl rfl rfl) (pv 0)))
      (pss_one (ps_ret (pe_ifExp (pt_truth (pe_op op_and (pv 1) pe_int) (fun _ => rfl)) (pe_op op_fdivW (pe_op op_add (pv 1) pe_int) pe_int) (pe_un un_neg (pe_op op_fdivW (pv 1) pe_int)))))), ?_⟩
    obtain ⟨KK, EE, hK0, hE, hw⟩ := cW_gen hw
    have S0 := Sep.startM (M := [p_self, l_self_octs]) sG (all_cons (some_ne h_p_self) (all_cons (some_ne h_l_self_octs) all_nil)) gM
    unfold F_BitReader_get_se at hw
    refine ⟨_, rfl, _, _, _, rfl, h_p_self, rfl, rfl, rfl, G, _, _, _, self', rfl, S0.sG, (S0.gno (all_cons (.head _) (all_cons (.tail _ (.head _)) all_nil))), h_p_self, h_l_self_octs, cW_call hw (fun v850 hw H851 x852 h854 h855  => ?_) (fun e he H2 e2 => hE e he H2 (Same.trans (Same.refl _) e2))⟩
    have S853 := S0.mut x852 (all_cons (.head _) (all_cons (.tail _ (.head _)) all_nil)) (all_cons (some_ne h854) (all_cons (some_ne h855) all_nil))
    refine vv_ifb (c := (((PySem.Builtin.bitAnd (v850.1) (1))) != 0)) (ta := (tOp (rI CDivW fun i j => V.int (i / j)) (tOp (rI0 fun i j => V.int (i + j)) (tVar 1) (tC (V.int 1))) (tC (V.int 2)))) (tb := (tUn (rU fun i => V.int (-i)) (tOp (rI CDivW fun i j => V.int (i / j)) (tVar 1) (tC (V.int 2))))) (t := fun σ H Q => (tOp (rI0 fun i j => V.int (PySem.Builtin.bitAnd i j)) (tVar 1) (tC (V.int 1))) σ H fun x H' => ∃ k, TruV K x H' k ∧ Q k H') (a := ((v850.1 + 1) / 2)) (b := (-(v850.1 / 2))) ?hx860 ?hy861 ?hz862 _ ?_
    case hx860 => exact vt_int (val_op (val_var rfl) val_c (fun Q q => ⟨_, _, rfl, rfl, q⟩))
    case hy861 => exact (val_op (val_op (val_var rfl) val_c (fun Q q => ⟨_, _, rfl, rfl, q⟩)) val_c (fun Q q => ⟨_, _, rfl, rfl, (divW_lit (by decide) (by decide)), q⟩))
    case hz862 => exact (vv_un (val_op (val_var rfl) val_c (fun Q q => ⟨_, _, rfl, rfl, (divW_lit (by decide) (by decide)), q⟩)) (fun Q q => ⟨_, rfl, q⟩))
    have hw := cW_ok hw
    exact hK0 _ hw _ S853.base h854 h855

abbrev N__get_slice : List Str := ["settings", "reader", "number", "index", "delta"]
theorem sc__get_slice : FnScope N__get_slice ["settings", "reader"] (defScope s__get_slice) := ⟨rfl, rfl, rfl, by decide +kernel, rfl, by decide +kernel, by decide +kernel⟩
theorem ok__get_slice (D : DefX K mg "_get_slice" s__get_slice ["settings", "reader"] pats__get_slice) (T : Txt w K mg AD) (c_BitReader_get_ue : MetX P w K mg base 3 AD.c_BitReader "get_ue" (sp_BitReader_get_ue K AD) pats_BitReader_get_ue) (c_BitReader_get_se : MetX P w K mg base 4 AD.c_BitReader "get_se" (sp_BitReader_get_se K AD) pats_BitReader_get_se) (c_SliceHeader___init__ : MakX P w K mg base 3 "SliceHeader" AD.c_SliceHeader (sp_SliceHeader___init__ K AD) pats_SliceHeader___init__) : CalX P w K mg base 5 "_get_slice" (sp__get_slice K AD) pats__get_slice := by
  refine D.ok sc__get_slice (fun vs H Q E h => ?_) (fun f cdv A_ outer s H vs Q E hr h => ?_)
  · obtain ⟨G, p_settings, p_settings_fmt, dx_settings, dx_settings_fmt, settings', p_reader, l_reader_octs, dx_reader, reader', rfl, _⟩ := h
    rfl
  · obtain ⟨G, p_settings, p_settings_fmt, dx_settings, dx_settings_fmt, settings', p_reader, l_reader_octs, dx_reader, reader', rfl, sG, gM, h_p_settings, h_p_settings_fmt, h_p_reader, h_l_reader_octs, hw⟩ := h
    refine ⟨_, (pss_cons (ps_set (i := 2) sc__get_slice.nd rfl (Or.inl rfl) (vx_methX0 c_BitReader_get_ue pat_BitReader_get_ue_0 (.head _) hr (by decide) (takes_of rfl rfl rfl rfl) (pv 1)))
      (pss_cons (ps_set (i := 3) sc__get_slice.nd rfl (Or.inl rfl) (vx_methX0 c_BitReader_get_ue pat_BitReader_get_ue_0 (.head _) hr (by decide) (takes_of rfl rfl rfl rfl) (pv 1)))
      (pss_cons (ps_set (i := 4) sc__get_slice.nd rfl (Or.inl rfl) (vx_methX0 c_BitReader_get_se pat_BitReader_get_se_0 (.head _) hr (by decide) (takes_of rfl rfl rfl rfl) (pv 1)))
      (pss_one (ps_ret (vx_makeX c_SliceHeader___init__ pat_SliceHeader___init___0 (.head _) hr (by decide) (takes_of rfl rfl rfl rfl) rfl (pa_cons (pv 0) pa_nil) (pk_cons (pv 2) (pk_cons (pv 3) (pk_cons (pv 4) pk_nil))))))))), ?_⟩
    obtain ⟨KK, EE, hK0, hE, hw⟩ := cW_gen hw
    have S0 := Sep.startM (M := [p_reader, l_reader_octs]) sG (all_cons (some_ne h_p_reader) (all_cons (some_ne h_l_reader_octs) all_nil)) gM
    unfold F__get_slice at hw
    refine ⟨_, rfl, _, _, _, rfl, h_p_reader, rfl, rfl, rfl, G, _, _, _, reader', rfl, S0.sG, (S0.gno (all_cons (.head _) (all_cons (.tail _ (.head _)) all_nil))), h_p_reader, h_l_reader_octs, cW_call hw (fun v863 hw H864 x865 h867 h868  => ?_) (fun e he H2 e2 => hE e he H2 (Same.trans (Same.refl _) e2))⟩
    have S866 := S0.mut x865 (all_cons (.head _) (all_cons (.tail _ (.head _)) all_nil)) (all_cons (some_ne h867) (all_cons (some_ne h868) all_nil))
    refine ⟨_, rfl, _, _, _, rfl, h867, rfl, rfl, rfl, G, _, _, _, v863.2, rfl, S866.sG, (S866.gno (all_cons (.head _) (all_cons (.tail _ (.head _)) all_nil))), h867, h868, cW_callN hw (fun v873 hw H874 x875 h877 h878  => ?_) trivial⟩
    have S876 := S866.mut x875 (all_cons (.head _) (all_cons (.tail _ (.head _)) all_nil)) (all_cons (some_ne h877) (all_cons (some_ne h878) all_nil))
    refine ⟨_, rfl, _, _, _, rfl, h877, rfl, rfl, rfl, G, _, _, _, v873.2, rfl, S876.sG, (S876.gno (all_cons (.head _) (all_cons (.tail _ (.head _)) all_nil))), h877, h878, cW_callN hw (fun v883 hw H884 x885 h887 h888  => ?_) trivial⟩
    have S886 := S876.mut x885 (all_cons (.head _) (all_cons (.tail _ (.head _)) all_nil)) (all_cons (some_ne h887) (all_cons (some_ne h888) all_nil))
    refine ⟨_, rfl, _, rfl, _, rfl, _, rfl, rfl, rfl, fun x893 dx894 n895 n896 n897 => ?_⟩
    generalize g898 : upd (upd H884 dx894 _) x893 _ = H899
    obtain ⟨e900, h901⟩ := gen_obj n895 n896 n897 g898
    have fr902 := S886.free n895
    have S903 := S886.new n895 e900 h901 fr902
    refine ⟨G, _, _, _, _, _, _, settings', _, _, _, rfl, S903.sG, (S903.gno (all_cons (.head _) all_nil)), h901, ((hideL_out (ni1 (b_ne h_p_settings S903 (.head _)))).trans (S903.bM _ _ h_p_settings)), ((hideL_out (ni1 (b_ne h_p_settings_fmt S903 (.head _)))).trans (S903.bM _ _ h_p_settings_fmt)), cW_callN hw (fun v904 hw H905 x906 h907 => ⟨rfl, ?_⟩) trivial⟩
    have S908 : Sep _ _ _ _ H905 [x893, p_reader, l_reader_octs] := Sep.init S903 x906 (.head _) h907 [] all_nil
    have h909 := ((SameXs.of x906) _ _ (e900 _ _ h887) (ni1 (ne_of_none h887 n895)))
    have h910 := ((SameXs.of x906) _ _ (e900 _ _ h888) (ni1 (ne_of_none h888 n895)))
    have hw := cW_ok hw
    exact hK0 _ hw _ S908.base h909 h910 _ _ fr902 h907

abbrev N_BitReader_left : List Str := ["self"]
theorem sc_BitReader_left : FnScope N_BitReader_left ["self"] (defScope s_BitReader_left) := ⟨rfl, rfl, rfl, by decide +kernel, rfl, by decide +kernel, by decide +kernel⟩
theorem ok_BitReader_left (D : PropX K AD.c_BitReader "BitReader.left" "left" s_BitReader_left ["self"] pats_BitReader_left) (T : Txt w K mg AD)  : PropY P w K mg base 1 AD.c_BitReader "left" (sp_BitReader_left K AD) pats_BitReader_left := by
  refine D.ok T.cl_BitReader sc_BitReader_left (fun vs H Q E h => ?_) (fun f cdv A_ outer s H vs Q E hr h => ?_)
  · obtain ⟨G, p_self, l_self_octs, dx_self, self', rfl, _⟩ := h
    rfl
  · obtain ⟨G, p_self, l_self_octs, dx_self, self', rfl, sG, h_p_self, h_l_self_octs, hw⟩ := h
    refine ⟨_, (pss_one (ps_ret (pe_op op_sub (fldK (K := K) (pv 0)) (fldK (K := K) (pv 0))))), ?_⟩
    obtain ⟨KK, EE, hK0, hE, hw⟩ := cW_gen hw
    have S0 := Sep.startG sG
    unfold F_BitReader_left at hw
    refine ⟨_, rfl, _, _, _, _, _, rfl, (S0.bM _ _ h_p_self), T.cl_BitReader, T.n_BitReader__end, rfl, _, rfl, _, _, _, _, _, rfl, (S0.bM _ _ h_p_self), T.cl_BitReader, T.n_BitReader__place, rfl, _, _, rfl, rfl, ?_⟩
    have hw := cW_ok hw
    exact hK0 _ hw _ S0.b0

abbrev N_read_slice : List Str := ["settings", "payload", "end", "reader", "header"]
theorem sc_read_slice : FnScope N_read_slice ["settings", "payload"] (defScope s_read_slice) := ⟨rfl, rfl, rfl, by decide +kernel, rfl, by decide +kernel, by decide +kernel⟩
theorem ok_read_slice (D : DefX K mg "read_slice" s_read_slice ["settings", "payload"] pats_read_slice) (T : Txt w K mg AD) (c__require : CalX P w K mg base 1 "_require" (sp__require K AD) pats__require) (c_BitReader___init__ : MakX P w K mg base 2 "BitReader" AD.c_BitReader (sp_BitReader___init__ K AD) pats_BitReader___init__) (c__get_slice : CalX P w K mg base 5 "_get_slice" (sp__get_slice K AD) pats__get_slice) (c_BitReader_left : PropY P w K mg base 1 AD.c_BitReader "left" (sp_BitReader_left K AD) pats_BitReader_left) : CalX P w K mg base 6 "read_slice" (sp_read_slice K AD) pats_read_slice := by
  refine D.ok sc_read_slice (fun vs H Q E h => ?_) (fun f cdv A_ outer s H vs Q E hr h => ?_)
  · obtain ⟨G, p_settings, p_settings_fmt, dx_settings, dx_settings_fmt, settings', a_payload, payload', rfl, _⟩ := h
    rfl
  · obtain ⟨G, p_settings, p_settings_fmt, dx_settings, dx_settings_fmt, settings', a_payload, payload', rfl, sG, h_p_settings, h_p_settings_fmt, q_payload, hw⟩ := h
    refine ⟨_, (C8.pss_cut (ps_set (i := 2) sc_read_slice.nd rfl (Or.inl rfl) (pe_ifExp (pt_truth (pv 1) (fun _ => rfl)) (pe_op op_add (pe_ix (ix_listK (K := K)) (pv 1) pe_int (fun _ _ => rfl)) pe_int) pe_int))
      (C8.pss_cut (ps_expr (vx_callX c__require pat__require_0 (.head _) hr (by decide) (takes_of rfl rfl rfl rfl) rfl (pa_cons (pe_cmp (pc_le (pv 2) (pe_callB (call_lenLiK (K := K)) (by rfl) T.b_len (by decide +kernel) (pa_cons (pv 1) pa_nil)))) (pa_cons pe_str pa_nil)) pk_nil))
      (pss_cons (ps_try_thru0 (pss_cons (ps_set (i := 3) sc_read_slice.nd rfl (Or.inl rfl) (vx_makeX c_BitReader___init__ pat_BitReader___init___0 (.head _) hr (by decide) takes0 rfl (pa_cons (pe_slice (sl_listK (K := K)) (pv 1) (po_some pe_int) (po_some (pv 2))) pa_nil) pk_nil))
      (pss_one (ps_set (i := 4) sc_read_slice.nd rfl (Or.inl rfl) (vx_callX c__get_slice pat__get_slice_0 (.head _) hr (by decide) takes0 rfl (pa_cons (pv 0) (pa_cons (pv 3) pa_nil)) pk_nil)))))
      (C8.pss_cut (ps_expr (vx_callX c__require pat__require_0 (.head _) hr (by decide) (takes_of rfl rfl rfl rfl) rfl (pa_cons (pe_cmp (pc_eqI (vx_propX c_BitReader_left hr (by decide) (pv 3)) pe_int)) (pa_cons pe_str pa_nil)) pk_nil))
      (pss_one (ps_ret (pe_tup (pa_cons (pv 4) (pa_cons (pe_slice (sl_listK (K := K)) (pv 1) (po_some (pv 2)) po_none) pa_nil))))))))), ?_⟩
    obtain ⟨KK, EE, hK0, hE, hw⟩ := cW_gen hw
    have S0 := Sep.startG sG
    unfold F_read_slice at hw
    refine ⟨fun σ H' => ∃ (end_914 : Int) (G' : Hp), σ = [some (V.ref p_settings), some (V.ref a_payload), some (V.int end_914), none, none] ∧ Same G G' ∧ Sep [] H G G' H' [] ∧ cW (F_read_slice_k1 (settings') (payload') end_914) KK EE, ?_, ?_⟩
    · obtain ⟨K915, hK916, hw⟩ := cW_push hw
      refine ⟨_, rfl, _, (.inl ⟨_, (SqL.of (S0.bM _ _ q_payload)), tru_map⟩), ?_⟩
      refine iteN (fun c917 => ?_) (fun c917 => ?_)
      · have hw := cW_neg c917 hw
        obtain ⟨g918, hw⟩ := cW_grd hw
        refine ⟨_, rfl, _, _, _, _, rfl, rfl, (SqL.of (S0.bM _ _ q_payload)), (atI_map g918), _, _, rfl, rfl, ?_⟩
        have hw := cW_bnd hw
        have hw := cW_ok hw
        have hw := hK916 _ hw
        exact ⟨(((itD (payload') (0)) + 1)), _, rfl, (Same.refl _), S0, hw⟩
      · have hw := cW_pos c917 hw
        have hw := cW_ok hw
        have hw := hK916 _ hw
        exact ⟨(1), _, rfl, (Same.refl _), S0, hw⟩
    · intro σ H920 hw
      obtain ⟨end_914, G922, rfl, eG923, S921, hw⟩ := hw
      unfold F_read_slice_k1 at hw
      refine ⟨fun σ H' => ∃ (G' : Hp), σ = [some (V.ref p_settings), some (V.ref a_payload), some (V.int (end_914)), none, none] ∧ Same G922 G' ∧ Sep [] H G G' H' [] ∧ cW (F_read_slice_k2 (settings') (payload') (end_914) ) KK EE, ?_, ?_⟩
      · obtain ⟨K927, hK928, hw⟩ := cW_push hw
        refine ⟨_, rfl, _, rfl, _, _, rfl, (SqL.of (S921.bM _ _ q_payload)), _, _, rfl, rfl, rfl, rfl, G922, _, _, rfl, S921.sG, cW_call hw (fun v929 hw => ?_) (fun e he => hE e he _ S921.b0)⟩
        have hw := cW_ok hw
        have hw := hK928 _ hw
        exact ⟨_, rfl, (Same.refl _), S921, hw⟩
      · intro σ H930 hw
        obtain ⟨G932, rfl, eG933, S931, hw⟩ := hw
        unfold F_read_slice_k2 at hw
        refine ⟨_, rfl, _, rfl, _, rfl, _, rfl, _, _, rfl, (SqL.of (S931.bM _ _ q_payload)), fun p934 n935 => ?_⟩
        generalize g936 : upd H930 p934 _ = H937
        obtain ⟨e938, h939⟩ := gen_new n935 g936
        have h940 : H937 p934 = some (.lst ((cutL (payload') (some (1)) (some (end_914)) : (List Int)).map V.int)) := cut_map h939
        have fr941 := S931.free n935
        have S942 := S931.new n935 e938 h940 fr941
        refine ⟨rfl, rfl, fun x943 dx944 n945 n946 n947 => ?_⟩
        generalize g948 : upd (upd H937 dx944 _) x943 _ = H949
        obtain ⟨e950, h951⟩ := gen_obj n945 n946 n947 g948
        have fr952 := S942.free n945
        have S953 := S942.new n945 e950 h951 fr952
        have h954 := (e950 _ _ h940)
        refine ⟨G932, _, _, _, _, rfl, S953.sG, (S953.gno (all_cons (.head _) all_nil)), h951, ((hideL_out (ni1 (ne_of_none h940 n945))).trans h954), cW_callN hw (fun v955 hw H957 l956 x958 n962 h959 h961 => ⟨rfl, ?_⟩) trivial⟩
        have fr963 := S953.free n962
        have S960 : Sep _ _ _ _ H957 [l956, x943, p934] := Sep.init S953 x958 (.head _) h959 [l956] (all_cons ⟨n962, some_ne h961, fr963⟩ all_nil)
        refine ⟨_, rfl, _, rfl, rfl, rfl, G932, _, _, _, _, settings', _, _, _, v955, rfl, S960.sG, (S960.gno (all_cons (.tail _ (.head _)) (all_cons (.head _) all_nil))), ((hideL_out (ni2 (b_ne h_p_settings S960 (.tail _ (.head _))) (b_ne h_p_settings S960 (.head _)))).trans (S960.bM _ _ h_p_settings)), ((hideL_out (ni2 (b_ne h_p_settings_fmt S960 (.tail _ (.head _))) (b_ne h_p_settings_fmt S960 (.head _)))).trans (S960.bM _ _ h_p_settings_fmt)), h959, h961, cW_callN hw (fun v964 hw H965 x966 h968 h969 p970 dx971 n972 h973 => ?_) trivial⟩
        have fr974 := S960.free n972
        have S967 := Sep.mutnews S960 x966 (all_cons (.tail _ (.head _)) (all_cons (.head _) all_nil)) (all_cons (some_ne h968) (all_cons (some_ne h969) all_nil)) [p970] (all_cons ⟨n972, some_ne h973, fr974⟩ all_nil)
        refine ⟨fun σ H' => ∃ (G' : Hp), σ = [some (V.ref p_settings), some (V.ref a_payload), some (V.int (end_914)), some (V.ref x943), some (V.ref p970)] ∧ Same G932 G' ∧ Sep [] H G G' H' [x943, l956, p970] ∧ H' x943 = some (.ins AD.c_BitReader dx944 [("_octets", V.ref l956), ("_place", V.int (v964.2.place)), ("_end", V.int (v964.2.stop))]) ∧ H' l956 = some (.lst ((v964.2.octs : (List Int)).map V.int)) ∧ H' p970 = some (.ins AD.c_SliceHeader dx971 [("number", V.int (v964.1.number)), ("index", V.int (v964.1.index)), ("delta", V.int (v964.1.delta))]) ∧ cW (F_read_slice_k3 (payload') (end_914) (v964.1) ) KK EE, ?_, ?_⟩
        · obtain ⟨K978, hK979, hw⟩ := cW_push hw
          refine ⟨_, rfl, _, _, _, rfl, h968, G932, _, _, _, v964.2, rfl, S967.sG, (hide_nil h968), (hide_nil h969), cW_callN hw (fun v980 hw H981 e982 => ?_) trivial⟩
          have S983 := S967.same e982
          refine ⟨_, _, rfl, rfl, rfl, rfl, G932, _, _, rfl, S983.sG, cW_call hw (fun v984 hw => ?_) (fun e he => hE e he _ S983.b0)⟩
          have hw := cW_ok hw
          have hw := hK979 _ hw
          have h985 := (e982 _ _ h968)
          have h986 := (e982 _ _ h969)
          have h987 := (e982 _ _ h973)
          exact ⟨_, rfl, (Same.refl _), (S983.sub (all_cons (.tail _ (.tail _ (.head _))) (all_cons (.tail _ (.head _)) (all_cons (.head _) all_nil)))), h985, h986, h987, hw⟩
        · intro σ H988 hw
          obtain ⟨G993, rfl, eG994, S989, h990, h991, h992, hw⟩ := hw
          unfold F_read_slice_k3 at hw
          refine ⟨_, rfl, _, rfl, _, rfl, _, rfl, _, _, rfl, (SqL.of (S989.bM _ _ q_payload)), fun p995 n996 => ?_⟩
          generalize g997 : upd H988 p995 _ = H998
          obtain ⟨e999, h1000⟩ := gen_new n996 g997
          have h1001 : H998 p995 = some (.lst ((cutL (payload') (some (end_914)) none : (List Int)).map V.int)) := cut_map h1000
          have fr1002 := S989.free n996
          have S1003 := S989.new n996 e999 h1001 fr1002
          refine ⟨(by show 2 ≤ sizeLine; decide), fun p1004 n1005 => ?_⟩
          generalize g1006 : upd H998 p1004 _ = H1007
          obtain ⟨e1008, h1009⟩ := gen_new n1005 g1006
          have h1010 : H1007 p1004 = some (.tup [V.ref p970, V.ref p995]) := h1009
          have fr1011 := S1003.free n1005
          obtain ⟨G1013, eG1014, hg1015, S1012⟩ := S1003.grow n1005 e1008 h1010 fr1011
          have h1016 := (e1008 _ _ (e999 _ _ h992))
          have h1017 := (e1008 _ _ h1001)
          have hw := cW_ok hw
          exact hK0 _ hw _ _ _ _ _ S1012.b0 fr1011 fr974 fr1002 (S1012.sG _ _ hg1015) h1016 h1017

abbrev N__law_picture : List Str := ["cell", "n", "draws", "kind", "store", "refs", "weight", "number", "level", "slot"]
theorem sc__law_picture : FnScope N__law_picture ["cell", "n"] (defScope s__law_picture) := ⟨rfl, rfl, rfl, by decide +kernel, rfl, by decide +kernel, by decide +kernel⟩
theorem ok__law_picture (D : DefX K mg "_law_picture" s__law_picture ["cell", "n"] pats__law_picture) (T : Txt w K mg AD) (c__law_draws : CalX P w K mg base 1 "_law_draws" (sp__law_draws K AD) pats__law_draws) (c__law_between : CalX P w K mg base 1 "_law_between" (sp__law_between K AD) pats__law_between) : CalX P w K mg base 2 "_law_picture" (sp__law_picture K AD) pats__law_picture := by
  refine D.ok sc__law_picture (fun vs H Q E h => ?_) (fun f cdv A_ outer s H vs Q E hr h => ?_)
  · obtain ⟨G, cell', a_n, n', rfl, _⟩ := h
    rfl
  · obtain ⟨G, cell', a_n, n', rfl, sG, q_n, hw⟩ := h
    refine ⟨_, (pss_cons (ps_set (i := 2) sc__law_picture.nd rfl (Or.inr rfl) (vx_callX c__law_draws pat__law_draws_0 (.head _) hr (by decide) (takes_of rfl rfl rfl rfl) rfl (pa_cons (pv 0) (pa_cons (pe_lst (pa_cons pe_int (pa_cons pe_int (pa_cons pe_int (pa_cons pe_int (pa_cons pe_int (pa_cons pe_int (pa_cons pe_int (pa_cons pe_int (pa_cons pe_int (pa_cons pe_int (pa_cons pe_int (pa_cons pe_int (pa_cons pe_int (pa_cons pe_int pa_nil))))))))))))))) pa_nil)) pk_nil))
      (pss_cons (ps_set (i := 3) sc__law_picture.nd rfl (Or.inl rfl) (pe_ix (ix_listK (K := K)) (pv 2) pe_int (fun _ _ => rfl)))
      (pss_cons (ps_setLc (i := 4) (y := "store") rfl sc__law_picture.nd rfl rfl (sw_true rfl rfl rfl (by decide +kernel)) (own := [("slot", 9)]) (g := gName 9) (pi_range1 rfl T.b_range (pa_cons (pe_ix (ix_listK (K := K)) (pv 1) pe_int (fun _ _ => rfl)) pa_nil)) (blkOk_by (own := [("slot", 9)]) (N := N__law_picture) (sc := defScope s__law_picture) (by decide +kernel)) (fun _ _ _ _ _ => (pg_name (i := 9) sc__law_picture.nd rfl (Or.inl rfl))) (fun _ _ _ _ _ => pts_one (pt_cmp (pc_eqI (pe_op op_and (pe_op op_shr (pe_ix (ix_listK (K := K)) (pv 2) pe_int (fun _ _ => rfl)) (pv 9)) pe_int) pe_int))) (fun _ _ _ _ _ => (pv 9)))
      (pss_cons (ps_set (i := 5) sc__law_picture.nd rfl (Or.inl rfl) (pe_lst (pa_cons (pe_op op_mod (pe_callTy call_int1 (by rfl) T.b_int (by decide +kernel) (pa_cons (pe_ix (ix_listK (K := K)) (pv 2) pe_int (fun _ _ => rfl)) pa_nil)) (pe_ix (ix_listK (K := K)) (pv 1) pe_int (fun _ _ => rfl))) (pa_cons (pe_op op_mod (pe_callTy call_int1 (by rfl) T.b_int (by decide +kernel) (pa_cons (pe_ix (ix_listK (K := K)) (pv 2) pe_int (fun _ _ => rfl)) pa_nil)) (pe_ix (ix_listK (K := K)) (pv 1) pe_int (fun _ _ => rfl))) pa_nil))))
      (C8.pss_cut (ps_if (pt_cmp (pc_eqI (pv 3) pe_int)) (pss_one (ps_set (i := 5) sc__law_picture.nd rfl (Or.inl rfl) (pe_lst pa_nil))) pss_nil)
      (C8.pss_cut (ps_if (PW.pt (pw_and (pt_cmp (pc_eqI (pv 3) pe_int)) (pw_and1 (pt_cmp (pc_eqI (pe_ix (ix_listK (K := K)) (pv 2) pe_int (fun _ _ => rfl)) pe_int))))) (pss_one (ps_set (i := 5) sc__law_picture.nd rfl (Or.inl rfl) (pe_slice (sl_listK (K := K)) (pv 5) po_none (po_some pe_int)))) pss_nil)
      (pss_cons (ps_set (i := 6) sc__law_picture.nd rfl (Or.inl rfl) pe_int)
      (C8.pss_cut (ps_if (pt_cmp (pc_eqI (pv 3) pe_int)) (pss_one (ps_set (i := 6) sc__law_picture.nd rfl (Or.inl rfl) (vx_callX c__law_between pat__law_between_0 (.head _) hr (by decide) (takes_of rfl rfl rfl rfl) rfl (pa_cons (pe_ix (ix_listK (K := K)) (pv 2) pe_int (fun _ _ => rfl)) (pa_cons (pe_ix (ix_listK (K := K)) (pv 2) pe_int (fun _ _ => rfl)) (pa_cons pe_int (pa_cons pe_int pa_nil)))) pk_nil))) pss_nil)
      (pss_cons (ps_set (i := 7) sc__law_picture.nd rfl (Or.inl rfl) (vx_callX c__law_between pat__law_between_0 (.head _) hr (by decide) (takes_of rfl rfl rfl rfl) rfl (pa_cons (pe_ix (ix_listK (K := K)) (pv 2) pe_int (fun _ _ => rfl)) (pa_cons (pe_ix (ix_listK (K := K)) (pv 2) pe_int (fun _ _ => rfl)) (pa_cons pe_int (pa_cons pe_int pa_nil)))) pk_nil))
      (pss_cons (ps_set (i := 8) sc__law_picture.nd rfl (Or.inl rfl) (vx_callX c__law_between pat__law_between_0 (.head _) hr (by decide) (takes_of rfl rfl rfl rfl) rfl (pa_cons (pe_ix (ix_listK (K := K)) (pv 2) pe_int (fun _ _ => rfl)) (pa_cons (pe_ix (ix_listK (K := K)) (pv 2) pe_int (fun _ _ => rfl)) (pa_cons pe_int (pa_cons pe_int pa_nil)))) pk_nil))
      (pss_one (ps_ret (pe_lst (pa_cons (pv 7) (pa_cons (pv 3) (pa_cons (pv 8) (pa_cons (pv 4) (pa_cons (pv 5) (pa_cons (pv 6) (pa_cons (pe_op op_mod (pe_callTy call_int1 (by rfl) T.b_int (by decide +kernel) (pa_cons (pe_ix (ix_listK (K := K)) (pv 2) pe_int (fun _ _ => rfl)) pa_nil)) (pe_ix (ix_listK (K := K)) (pv 1) pe_int (fun _ _ => rfl))) (pa_cons (pe_ix (ix_listK (K := K)) (pv 2) pe_int (fun _ _ => rfl)) (pa_cons (pe_op op_mul (pe_ix (ix_listK (K := K)) (pv 1) pe_int (fun _ _ => rfl)) (pe_op op_sub (pe_ix (ix_listK (K := K)) (pv 2) pe_int (fun _ _ => rfl)) pe_int)) pa_nil)))))))))))))))))))))), ?_⟩
    obtain ⟨KK, EE, hK0, hE, hw⟩ := cW_gen hw
    have S0 := Sep.startG sG
    unfold F__law_picture at hw
    refine ⟨_, rfl, (by show 14 ≤ sizeLine; decide), fun p1018 n1019 => ?_⟩
    generalize g1020 : upd H p1018 _ = H1021
    obtain ⟨e1022, h1023⟩ := gen_new n1019 g1020
    have h1024 : H1021 p1018 = some (.lst (([6, 1000, 3, 6, 32, 16, 2, 4, 4, 6, 17, 4, 2, 13] : (List Int)).map V.int)) := h1023
    have fr1025 := S0.free n1019
    have S1026 := S0.new n1019 e1022 h1024 fr1025
    refine ⟨rfl, rfl, G, _, _, _, rfl, S1026.sG, (hide_nil h1024), cW_call hw (fun v1027 hw p1030 H1028 n1031 e1029 h1032 => ?_) (fun e he H2 e2 => hE e he H2 (Same.trans S1026.b0 e2))⟩
    have h1033 : H1028 p1030 = some (.lst ((v1027 : (List Int)).map V.int)) := h1032
    have fr1034 := S1026.free n1031
    have S1035 := S1026.new n1031 e1029 h1033 fr1034
    obtain ⟨g1036, hw⟩ := cW_grd hw
    refine ⟨_, rfl, _, _, _, _, rfl, rfl, (SqL.of h1033), (atI_map g1036), ?_⟩
    have hw := cW_bnd hw
    obtain ⟨g1038, hw⟩ := cW_grd hw
    obtain ⟨g1039, hw⟩ := cW_grd hw
    obtain ⟨K1042, hK1043, hw⟩ := cW_push hw
    refine ⟨_, rfl, _, _, _, _, rfl, rfl, (SqL.of (S1035.bM _ _ q_n)), (atI_map g1038), _, rfl, g1039.1, g1039.2, fun D1044 n1045 => lc_range (lo := 0) (n := Int.toNat ((itD (n') (4)))) (fun i H' => ∃ (G' : Hp) (acc1047 : (List Int)), Same G G' ∧ Sep [] H G G' H' [D1044, p1030] ∧ H' p1030 = some (.lst ((v1027 : (List Int)).map V.int)) ∧ H' D1044 = some (.lst ((acc1047 : (List Int)).map V.int)) ∧ Same H1028 H' ∧ cW (mapF (List.drop i (rng (0) (Int.toNat ((itD (n') (4)))))) acc1047 (fun x => noEr (F__law_picture_c1 (v1027) x))) K1042 EE) ?_ ?_ ?_⟩
    · generalize g1049 : upd H1028 D1044 _ = H1050
      obtain ⟨e1051, h1052⟩ := gen_new n1045 g1049
      have fr1053 := S1035.free n1045
      have S1054 := S1035.new n1045 e1051 h1052 fr1053
      have h1055 := (e1051 _ _ h1033)
      exact ⟨_, [], Same.refl _, (S1054.sub (all_cons (.head _) (all_cons (.tail _ (.head _)) all_nil))), h1055, h1052, e1051, hw⟩
    · intro i H1056 hi hw
      obtain ⟨G1059, acc1061, eG1060, S1057, h1068, h1058, eo1067, hw⟩ := hw
      obtain ⟨z1069, hw⟩ := cW_mapF (rng_get hi) hw
      generalize (0 + (i : Int)) = x1070 at hw ⊢
      have hw := cW_noEr hw
      have hw : cW (F__law_picture_c1 (v1027) (x1070)) _ (fun _ => False) := hw
      unfold F__law_picture_c1 at hw
      refine ⟨rfl, ?_⟩
      obtain ⟨g1072, hw⟩ := cW_grd hw
      obtain ⟨g1073, hw⟩ := cW_grd hw
      refine ⟨_, rfl, _, _, _, _, rfl, rfl, (SqL.of h1068), (atI_map g1072), _, rfl, _, _, rfl, rfl, g1073, _, _, rfl, rfl, _, _, rfl, rfl, _, rfl, ?_⟩
      refine iteD (fun c1074 => ?_) (fun c1074 => ?_)
      · have hw := cW_pos c1074 hw
        refine ⟨_, rfl, _, h1058, (app_lenM z1069), ?_⟩
        generalize g1075 : upd H1056 D1044 _ = H1076
        obtain ⟨x1077, h1078⟩ := gen_mut g1075
        have S1079 := S1057.mut1 x1077 (.head _) h1078
        have hw := cW_ok hw
        have h1080 := (x1077 _ _ h1068 (ne_of_none h1033 n1045))
        exact ⟨_, (acc1061 ++ [x1070]), eG1060, S1079, h1080, (snoc_map h1078), (same_mut eo1067 x1077 n1045), hw⟩
      · have hw := cW_neg c1074 hw
        have hw := cW_ok hw
        exact ⟨_, acc1061, eG1060, S1057, h1068, h1058, eo1067, hw⟩
    intro H1081 hw
    obtain ⟨G1084, acc1086, eG1085, S1082, h1093, h1083, eo1092, hw⟩ := hw
    have hw := hK1043 _ (cW_mapF0 (rng_len _ _).symm hw)
    have fr1094 := S1035.free n1045
    obtain ⟨g1095, hw⟩ := cW_grd hw
    refine ⟨_, rfl, _, _, _, _, rfl, rfl, (SqL.of h1093), (atI_map g1095), .inl ⟨_, rfl, ?_⟩⟩
    obtain ⟨g1096, hw⟩ := cW_grd hw
    obtain ⟨g1097, hw⟩ := cW_grd hw
    obtain ⟨g1098, hw⟩ := cW_grd hw
    refine ⟨_, rfl, _, _, _, _, rfl, rfl, (SqL.of (S1082.bM _ _ q_n)), (atI_map g1096), _, _, rfl, rfl, g1097, _, rfl, _, _, _, _, rfl, rfl, (SqL.of h1093), (atI_map g1098), .inl ⟨_, rfl, ?_⟩⟩
    obtain ⟨g1099, hw⟩ := cW_grd hw
    obtain ⟨g1100, hw⟩ := cW_grd hw
    refine ⟨_, rfl, _, _, _, _, rfl, rfl, (SqL.of (S1082.bM _ _ q_n)), (atI_map g1099), _, _, rfl, rfl, g1100, (by show 2 ≤ sizeLine; decide), fun p1101 n1102 => ?_⟩
    generalize g1103 : upd H1081 p1101 _ = H1104
    obtain ⟨e1105, h1106⟩ := gen_new n1102 g1103
    have h1107 : H1104 p1101 = some (.lst (([((itD (v1027) (7)) % (itD (n') (4))), ((itD (v1027) (8)) % (itD (n') (4)))] : (List Int)).map V.int)) := h1106
    have fr1108 := S1082.free n1102
    have S1109 := S1082.new n1102 e1105 h1107 fr1108
    refine ⟨fun σ H' => ∃ (p1116 : Addr) (refs_1115 : (List Int)) (G' : Hp), σ = [some (V.int (cell')), some (V.ref a_n), some (V.ref p1030), some (V.int ((itD (v1027) (2)))), some (V.ref D1044), some (V.ref p1116), none, none, none, none] ∧ Same G1084 G' ∧ Sep [] H G G' H' [p1030, D1044, p1116] ∧ H' p1030 = some (.lst ((v1027 : (List Int)).map V.int)) ∧ H' D1044 = some (.lst ((acc1086 : (List Int)).map V.int)) ∧ H' p1116 = some (.lst ((refs_1115 : (List Int)).map V.int)) ∧ H p1116 = none ∧ p1116 ≠ p1030 ∧ p1116 ≠ D1044 ∧ cW (F__law_picture_k2 (n') (v1027) ((itD (v1027) (2))) (acc1086) refs_1115) KK EE, ?_, ?_⟩
    · obtain ⟨K1117, hK1118, hw⟩ := cW_push hw
      refine ⟨_, rfl, _, _, rfl, rfl, _, rfl, ?_⟩
      refine iteD (fun c1119 => ?_) (fun c1119 => ?_)
      · have hw := cW_pos c1119 hw
        refine ⟨(by show 0 ≤ sizeLine; decide), fun p1120 n1121 => ?_⟩
        generalize g1122 : upd H1104 p1120 _ = H1123
        obtain ⟨e1124, h1125⟩ := gen_new n1121 g1122
        have h1126 : H1123 p1120 = some (.lst ((([] : (List Int)) : (List Int)).map V.int)) := h1125
        have fr1127 := S1109.free n1121
        have S1128 := S1109.new n1121 e1124 h1126 fr1127
        have hw := cW_ok hw
        have hw := hK1118 _ hw
        have h1129 := (e1124 _ _ (e1105 _ _ h1093))
        have h1130 := (e1124 _ _ (e1105 _ _ h1083))
        exact ⟨_, (([] : (List Int))), _, rfl, (Same.refl _), (S1128.sub (all_cons (.tail _ (.tail _ (.tail _ (.head _)))) (all_cons (.tail _ (.tail _ (.head _))) (all_cons (.head _) all_nil)))), h1129, h1130, h1126, fr1127, (ne_of_none (e1105 _ _ h1093) n1121).symm, (ne_of_none (e1105 _ _ h1083) n1121).symm, hw⟩
      · have hw := cW_neg c1119 hw
        have hw := cW_ok hw
        have hw := hK1118 _ hw
        have h1131 := (e1105 _ _ h1093)
        have h1132 := (e1105 _ _ h1083)
        exact ⟨_, ([((itD (v1027) (7)) % (itD (n') (4))), ((itD (v1027) (8)) % (itD (n') (4)))]), _, rfl, (Same.refl _), (S1109.sub (all_cons (.tail _ (.tail _ (.head _))) (all_cons (.tail _ (.head _)) (all_cons (.head _) all_nil)))), h1131, h1132, h1107, fr1108, (ne_of_none h1093 n1102).symm, (ne_of_none h1083 n1102).symm, hw⟩
    · intro σ H1133 hw
      obtain ⟨p1116, refs_1115, G1141, rfl, eG1142, S1134, h1135, h1136, h1137, fr1138, ne1139, ne1140, hw⟩ := hw
      unfold F__law_picture_k2 at hw
      refine ⟨fun σ H' => ∃ (p1149 : Addr) (refs_1148 : (List Int)) (G' : Hp), σ = [some (V.int (cell')), some (V.ref a_n), some (V.ref p1030), some (V.int ((itD (v1027) (2)))), some (V.ref D1044), some (V.ref p1149), none, none, none, none] ∧ Same G1141 G' ∧ Sep [] H G G' H' [p1030, D1044, p1149] ∧ H' p1030 = some (.lst ((v1027 : (List Int)).map V.int)) ∧ H' D1044 = some (.lst ((acc1086 : (List Int)).map V.int)) ∧ H' p1149 = some (.lst ((refs_1148 : (List Int)).map V.int)) ∧ H p1149 = none ∧ p1149 ≠ p1030 ∧ p1149 ≠ D1044 ∧ cW (F__law_picture_k3 (n') (v1027) ((itD (v1027) (2))) (acc1086) refs_1148) KK EE, ?_, ?_⟩
      · obtain ⟨K1150, hK1151, hw⟩ := cW_push hw
        refine ⟨_, rfl, _, _, rfl, rfl, _, rfl, ?_⟩
        refine iteD (fun c1152 => ?_) (fun c1152 => ?_)
        · have hw := cW_pos c1152 hw
          obtain ⟨g1153, hw⟩ := cW_grd hw
          refine ⟨_, rfl, _, _, _, _, rfl, rfl, (SqL.of h1135), (atI_map g1153), _, _, rfl, rfl, _, rfl, ?_⟩
          refine iteD (fun c1154 => ?_) (fun c1154 => ?_)
          · have hw := cW_pos c1154 hw
            refine ⟨_, rfl, _, rfl, _, _, rfl, (SqL.of h1137), fun p1155 n1156 => ?_⟩
            generalize g1157 : upd H1133 p1155 _ = H1158
            obtain ⟨e1159, h1160⟩ := gen_new n1156 g1157
            have h1161 : H1158 p1155 = some (.lst ((cutL (refs_1115) none (some (1)) : (List Int)).map V.int)) := cut_map h1160
            have fr1162 := S1134.free n1156
            have S1163 := S1134.new n1156 e1159 h1161 fr1162
            have hw := cW_ok hw
            have hw := hK1151 _ hw
            have h1164 := (e1159 _ _ h1135)
            have h1165 := (e1159 _ _ h1136)
            exact ⟨_, (cutL (refs_1115) none (some (1))), _, rfl, (Same.refl _), (S1163.sub (all_cons (.tail _ (.head _)) (all_cons (.tail _ (.tail _ (.head _))) (all_cons (.head _) all_nil)))), h1164, h1165, h1161, fr1162, (ne_of_none h1135 n1156).symm, (ne_of_none h1136 n1156).symm, hw⟩
          · have hw := cW_neg c1154 hw
            have hw := cW_ok hw
            have hw := hK1151 _ hw
            exact ⟨_, (refs_1115), _, rfl, (Same.refl _), S1134, h1135, h1136, h1137, fr1138, ne1139, ne1140, hw⟩
        · have hw := cW_neg c1152 hw
          refine iteF ?_
          have hw := cW_ok hw
          have hw := hK1151 _ hw
          exact ⟨_, (refs_1115), _, rfl, (Same.refl _), S1134, h1135, h1136, h1137, fr1138, ne1139, ne1140, hw⟩
      · intro σ H1166 hw
        obtain ⟨p1149, refs_1148, G1174, rfl, eG1175, S1167, h1168, h1169, h1170, fr1171, ne1172, ne1173, hw⟩ := hw
        unfold F__law_picture_k3 at hw
        refine ⟨fun σ H' => ∃ (weight_1182 : Int) (G' : Hp), σ = [some (V.int (cell')), some (V.ref a_n), some (V.ref p1030), some (V.int ((itD (v1027) (2)))), some (V.ref D1044), some (V.ref p1149), some (V.int weight_1182), none, none, none] ∧ Same G1174 G' ∧ Sep [] H G G' H' [p1030, D1044, p1149] ∧ H' p1030 = some (.lst ((v1027 : (List Int)).map V.int)) ∧ H' D1044 = some (.lst ((acc1086 : (List Int)).map V.int)) ∧ H' p1149 = some (.lst ((refs_1148 : (List Int)).map V.int)) ∧ cW (F__law_picture_k4 (n') (v1027) ((itD (v1027) (2))) (acc1086) (refs_1148) weight_1182) KK EE, ?_, ?_⟩
        · obtain ⟨K1183, hK1184, hw⟩ := cW_push hw
          refine ⟨_, rfl, _, _, rfl, rfl, _, rfl, ?_⟩
          refine iteD (fun c1185 => ?_) (fun c1185 => ?_)
          · have hw := cW_pos c1185 hw
            obtain ⟨g1186, hw⟩ := cW_grd hw
            obtain ⟨g1187, hw⟩ := cW_grd hw
            refine ⟨_, rfl, _, _, _, _, rfl, rfl, (SqL.of h1168), (atI_map g1186), _, rfl, _, _, _, _, rfl, rfl, (SqL.of h1168), (atI_map g1187), rfl, rfl, G1174, _, _, _, _, rfl, S1167.sG, cW_call hw (fun v1188 hw => ?_) (fun e he => hE e he _ S1167.b0)⟩
            have hw := cW_ok hw
            have hw := hK1184 _ hw
            exact ⟨(v1188), _, rfl, (Same.refl _), S1167, h1168, h1169, h1170, hw⟩
          · have hw := cW_neg c1185 hw
            have hw := cW_ok hw
            have hw := hK1184 _ hw
            exact ⟨(8), _, rfl, (Same.refl _), S1167, h1168, h1169, h1170, hw⟩
        · intro σ H1189 hw
          obtain ⟨weight_1182, G1194, rfl, eG1195, S1190, h1191, h1192, h1193, hw⟩ := hw
          unfold F__law_picture_k4 at hw
          obtain ⟨g1196, hw⟩ := cW_grd hw
          obtain ⟨g1197, hw⟩ := cW_grd hw
          refine ⟨_, rfl, _, _, _, _, rfl, rfl, (SqL.of h1191), (atI_map g1196), _, rfl, _, _, _, _, rfl, rfl, (SqL.of h1191), (atI_map g1197), rfl, rfl, G1194, _, _, _, _, rfl, S1190.sG, cW_call hw (fun v1198 hw => ?_) (fun e he => hE e he _ S1190.b0)⟩
          obtain ⟨g1199, hw⟩ := cW_grd hw
          obtain ⟨g1200, hw⟩ := cW_grd hw
          refine ⟨_, rfl, _, _, _, _, rfl, rfl, (SqL.of h1191), (atI_map g1199), _, rfl, _, _, _, _, rfl, rfl, (SqL.of h1191), (atI_map g1200), rfl, rfl, G1194, _, _, _, _, rfl, S1190.sG, cW_call hw (fun v1201 hw => ?_) (fun e he => hE e he _ S1190.b0)⟩
          obtain ⟨g1202, hw⟩ := cW_grd hw
          refine ⟨_, rfl, _, rfl, _, rfl, _, rfl, _, rfl, _, rfl, _, rfl, _, _, _, _, rfl, rfl, (SqL.of h1191), (atI_map g1202), .inl ⟨_, rfl, ?_⟩⟩
          obtain ⟨g1203, hw⟩ := cW_grd hw
          obtain ⟨g1204, hw⟩ := cW_grd hw
          obtain ⟨g1205, hw⟩ := cW_grd hw
          obtain ⟨g1206, hw⟩ := cW_grd hw
          obtain ⟨g1207, hw⟩ := cW_grd hw
          obtain ⟨g1208, hw⟩ := cW_grd hw
          refine ⟨_, rfl, _, _, _, _, rfl, rfl, (SqL.of (S1190.bM _ _ q_n)), (atI_map g1203), _, _, rfl, rfl, g1204, _, rfl, _, _, _, _, rfl, rfl, (SqL.of h1191), (atI_map g1205), _, rfl, _, _, _, _, rfl, rfl, (SqL.of (S1190.bM _ _ q_n)), (atI_map g1206), _, rfl, _, _, _, _, rfl, rfl, (SqL.of h1191), (atI_map g1207), _, _, rfl, rfl, _, _, rfl, rfl, g1208, ?_⟩
          have r1209 : Rp G1194 (V.int (v1198)) (encD (PyData.int (v1198))) := (.int _)
          have r1210 : Rp G1194 (V.int ((itD (v1027) (2)))) (encD (PyData.int ((itD (v1027) (2))))) := (.int _)
          have r1211 : Rp G1194 (V.int (v1201)) (encD (PyData.int (v1201))) := (.int _)
          obtain ⟨G1212, eG1213, hg1214, S1215⟩ := Sep.freeze (O' := [p1030, p1149]) S1190 (.tail _ (.head _)) h1192 fr1094 ((all_cons ⟨(.head _), (ne_of_none h1033 n1045)⟩ (all_cons ⟨(.tail _ (.tail _ (.head _))), ne1173⟩ all_nil)))
          have r1216 : Rp G1212 (V.ref D1044) (encD ((encL PyData.int) (acc1086))) := (rp_mk_ints hg1214)
          obtain ⟨G1217, eG1218, hg1219, S1220⟩ := Sep.freeze (O' := [p1030]) S1215 (.tail _ (.head _)) h1193 fr1171 ((all_cons ⟨(.head _), (ne1172).symm⟩ all_nil))
          have r1221 : Rp G1217 (V.ref p1149) (encD ((encL PyData.int) (refs_1148))) := (rp_mk_ints hg1219)
          have r1222 : Rp G1217 (V.int (weight_1182)) (encD (PyData.int (weight_1182))) := (.int _)
          have r1223 : Rp G1217 (V.int (((itD (v1027) (11)) % (itD (n') (8))))) (encD (PyData.int (((itD (v1027) (11)) % (itD (n') (8)))))) := (.int _)
          have r1224 : Rp G1217 (V.int ((itD (v1027) (12)))) (encD (PyData.int ((itD (v1027) (12))))) := (.int _)
          have r1225 : Rp G1217 (V.int (((itD (n') (6)) * ((itD (v1027) (13)) - 6)))) (encD (PyData.int (((itD (n') (6)) * ((itD (v1027) (13)) - 6))))) := (.int _)
          refine ⟨(by show 9 ≤ sizeLine; decide), fun p1226 n1227 => ?_⟩
          generalize g1228 : upd H1189 p1226 _ = H1229
          obtain ⟨e1230, h1231⟩ := gen_new n1227 g1228
          have h1232 : H1229 p1226 = some (.lst ([(V.int (v1198)), (V.int ((itD (v1027) (2)))), (V.int (v1201)), (V.ref D1044), (V.ref p1149), (V.int (weight_1182)), (V.int (((itD (v1027) (11)) % (itD (n') (8))))), (V.int ((itD (v1027) (12)))), (V.int (((itD (n') (6)) * ((itD (v1027) (13)) - 6))))])) := h1231
          have fr1233 := S1220.free n1227
          have S1234 := S1220.new n1227 e1230 h1232 fr1233
          have d1235 : RpAll G1217 ([(V.int (v1198)), (V.int ((itD (v1027) (2)))), (V.int (v1201)), (V.ref D1044), (V.ref p1149), (V.int (weight_1182)), (V.int (((itD (v1027) (11)) % (itD (n') (8))))), (V.int ((itD (v1027) (12)))), (V.int (((itD (n') (6)) * ((itD (v1027) (13)) - 6))))]) (([(PyData.int (v1198)), (PyData.int ((itD (v1027) (2)))), (PyData.int (v1201)), ((encL PyData.int) (acc1086)), ((encL PyData.int) (refs_1148)), (PyData.int (weight_1182)), (PyData.int (((itD (v1027) (11)) % (itD (n') (8))))), (PyData.int ((itD (v1027) (12)))), (PyData.int (((itD (n') (6)) * ((itD (v1027) (13)) - 6))))] : (List PyData)).map encD) := (RpAll.cons (Rp.mono eG1218 (Rp.mono eG1213 r1209)) (RpAll.cons (Rp.mono eG1218 (Rp.mono eG1213 r1210)) (RpAll.cons (Rp.mono eG1218 (Rp.mono eG1213 r1211)) (RpAll.cons (Rp.mono eG1218 r1216) (RpAll.cons r1221 (RpAll.cons r1222 (RpAll.cons r1223 (RpAll.cons r1224 (RpAll.cons r1225 RpAll.nil)))))))))
          obtain ⟨G1236, eG1237, hg1238, S1239⟩ := Sep.freeze (O' := [p1030]) S1234 (.head _) h1232 fr1233 ((all_cons ⟨(.tail _ (.head _)), (ne_of_none h1191 n1227)⟩ all_nil))
          have hw := cW_ok hw
          exact hK0 _ hw _ _ _ S1239.b0 S1239.g0 S1239.sG S1239.gn (rp_mk_list hg1238 (RpAll.mono eG1237 d1235))

abbrev N__law_cell : List Str := ["script", "k"]
theorem sc__law_cell : FnScope N__law_cell ["script", "k"] (defScope s__law_cell) := ⟨rfl, rfl, rfl, by decide +kernel, rfl, by decide +kernel, by decide +kernel⟩
theorem ok__law_cell (D : DefX K mg "_law_cell" s__law_cell ["script", "k"] pats__law_cell) (T : Txt w K mg AD)  : CalX P w K mg base 1 "_law_cell" (sp__law_cell K AD) pats__law_cell := by
  refine D.ok sc__law_cell (fun vs H Q E h => ?_) (fun f cdv A_ outer s H vs Q E hr h => ?_)
  · obtain ⟨G, a_script, script', k', rfl, _⟩ := h
    rfl
  · obtain ⟨G, a_script, script', k', rfl, sG, q_script, hw⟩ := h
    refine ⟨_, (pss_cons (ps_if (pt_cmp (pc_lt (pv 1) (pe_callB (call_lenLiK (K := K)) (by rfl) T.b_len (by decide +kernel) (pa_cons (pv 0) pa_nil)))) (pss_one (ps_ret (pe_callTy call_int1 (by rfl) T.b_int (by decide +kernel) (pa_cons (pe_ix (ix_listK (K := K)) (pv 0) (pv 1) (fun _ _ => rfl)) pa_nil)))) pss_nil)
      (pss_one (ps_ret pe_int))), ?_⟩
    obtain ⟨KK, EE, hK0, hE, hw⟩ := cW_gen hw
    have S0 := Sep.startG sG
    unfold F__law_cell at hw
    refine ⟨_, rfl, _, rfl, _, _, rfl, (S0.b0.seq q_script), _, _, rfl, rfl, _, rfl, ?_⟩
    refine iteD (fun c1240 => ?_) (fun c1240 => ?_)
    · have hw := cW_pos c1240 hw
      obtain ⟨g1241, hw⟩ := cW_grd hw
      refine ⟨_, rfl, _, rfl, _, _, _, _, rfl, rfl, (S0.b0.seq q_script), (atI_map g1241), .inl ⟨_, rfl, ?_⟩⟩
      have hw := cW_ok hw
      exact hK0 _ hw
    · have hw := cW_neg c1240 hw
      have hw := cW_ok hw
      exact hK0 _ hw

abbrev N_escape : List Str := ["octets", "escaped", "zeros", "octet"]
theorem sc_escape : FnScope N_escape ["octets"] (defScope s_escape) := ⟨rfl, rfl, rfl, by decide +kernel, rfl, by decide +kernel, by decide +kernel⟩
theorem ok_escape (D : DefX K mg "escape" s_escape ["octets"] pats_escape) (T : Txt w K mg AD)  : CalX P w K mg base 1 "escape" (sp_escape K AD) pats_escape := by
  refine D.ok sc_escape (fun vs H Q E h => ?_) (fun f cdv A_ outer s H vs Q E hr h => ?_)
  · obtain ⟨G, a_octets, octets', rfl, _⟩ := h
    rfl
  · obtain ⟨G, a_octets, octets', rfl, sG, q_octets, hw⟩ := h
    refine ⟨_, (pss_cons (ps_set (i := 1) sc_escape.nd rfl (Or.inl rfl) (pe_lst pa_nil))
      (pss_cons (ps_set (i := 2) sc_escape.nd rfl (Or.inl rfl) pe_int)
      (pss_cons (ps_for (passes_of rfl) rfl (pi_listK (K := K) (pv 0)) (pg_name (i := 3) sc_escape.nd rfl (Or.inl rfl)) (C8.pss_cut (ps_if (PW.pt (pw_and (pt_cmp (pc_eqI (pv 2) pe_int)) (pw_and1 (pt_cmp (pc_le (pv 3) (C8.pe_gc rfl T.g_ESCAPE)))))) (pss_cons (ps_expr (pe_bm PySem.F.plainAttrs_list PySem.F.slot_list_append PySem.F.type_list_append mt_append (pv 1) (pa_cons (C8.pe_gc rfl T.g_ESCAPE) pa_nil)))
      (pss_one (ps_set (i := 2) sc_escape.nd rfl (Or.inl rfl) pe_int))) pss_nil)
      (pss_cons (ps_expr (pe_bm PySem.F.plainAttrs_list PySem.F.slot_list_append PySem.F.type_list_append mt_append (pv 1) (pa_cons (pv 3) pa_nil)))
      (pss_one (ps_set (i := 2) sc_escape.nd rfl (Or.inl rfl) (pe_ifExp (pt_cmp (pc_eqI (pv 3) pe_int)) (pe_op op_add (pv 2) pe_int) pe_int))))))
      (pss_one (ps_ret (pv 1)))))), ?_⟩
    obtain ⟨KK, EE, hK0, hE, hw⟩ := cW_gen hw
    have S0 := Sep.startG sG
    unfold F_escape at hw
    refine ⟨(by show 0 ≤ sizeLine; decide), fun p1242 n1243 => ?_⟩
    generalize g1244 : upd H p1242 _ = H1245
    obtain ⟨e1246, h1247⟩ := gen_new n1243 g1244
    have h1248 : H1245 p1242 = some (.lst ((([] : (List Int)) : (List Int)).map V.int)) := h1247
    have fr1249 := S0.free n1243
    have S1250 := S0.new n1243 e1246 h1248 fr1249
    obtain ⟨K1251, hK1252, hw⟩ := cW_push hw
    refine ⟨_, rfl, _, rfl, ⟨_, (SqL.of (S1250.bM _ _ q_octets))⟩, for_list (K := K) (a := a_octets) (xs := (octets' : List Int).map V.int) (fun i σ H' => ∃ (escaped_1253 : (List Int)) (zeros_1254 : Int) (u1255 : Option V) (G' : Hp), σ = [some (V.ref a_octets), some (V.ref p1242), some (V.int zeros_1254), u1255] ∧ Same G G' ∧ Sep [] H G G' H' [p1242] ∧ H' p1242 = some (.lst ((escaped_1253 : (List Int)).map V.int)) ∧ cW (forS (List.drop i (octets')) (escaped_1253, zeros_1254) (fun s x => F_escape_b1  (s.1) (s.2) x)) K1251 EE) ?_ ?_ ?_ ?_⟩
    · exact ⟨(([] : (List Int))), (0), _, _, rfl, (Same.refl _), S1250, h1248, hw⟩
    · intro i σ H1256 _ hw
      obtain ⟨escaped_1253, zeros_1254, u1255, G1259, rfl, eG1260, S1257, h1258, hw⟩ := hw
      exact (SqL.of (S1257.bM _ _ q_octets))
    · intro i x σ H1261 hj hw
      obtain ⟨escaped_1253, zeros_1254, u1255, G1264, rfl, eG1265, S1262, h1263, hw⟩ := hw
      obtain ⟨x1266, hx, rfl⟩ := map_get hj
      have hw := cW_forS hx hw
      have hw : cW (F_escape_b1  (escaped_1253) (zeros_1254) (x1266)) _ EE := hw
      unfold F_escape_b1 at hw
      obtain ⟨K1269, hK1270, hw⟩ := cW_name hw
      refine ⟨fun σ H' => ∃ (escaped_1275 : (List Int)) (zeros_1276 : Int) (G' : Hp), σ = [some (V.ref a_octets), some (V.ref p1242), some (V.int zeros_1276), some (V.int (x1266))] ∧ Same G1264 G' ∧ Sep [] H G G' H' [p1242] ∧ H' p1242 = some (.lst ((escaped_1275 : (List Int)).map V.int)) ∧ cW (F_escape_k2 (x1266) escaped_1275 zeros_1276) K1269 EE, ?_, ?_⟩
      · obtain ⟨K1277, hK1278, hw⟩ := cW_push hw
        refine ⟨_, rfl, _, _, rfl, rfl, _, rfl, ?_⟩
        refine iteD (fun c1279 => ?_) (fun c1279 => ?_)
        · have hw := cW_pos c1279 hw
          refine ⟨_, rfl, _, _, rfl, rfl, _, rfl, ?_⟩
          refine iteD (fun c1280 => ?_) (fun c1280 => ?_)
          · have hw := cW_pos c1280 hw
            obtain ⟨g1281, hw⟩ := cW_grd hw
            refine ⟨_, rfl, (.inl ⟨rfl, _, SqL.of h1263⟩), _, _, _, rfl, rfl, h1263, (app_lenM g1281), ?_⟩
            generalize g1282 : upd H1261 p1242 _ = H1283
            obtain ⟨x1284, h1285⟩ := gen_mut g1282
            have h1286 : H1283 p1242 = some (.lst (((escaped_1253) ++ [3] : (List Int)).map V.int)) := snoc_map h1285
            have S1287 := S1262.mut1 x1284 (.head _) h1286
            have hw := cW_bnd hw
            have hw := cW_ok hw
            have hw := hK1278 _ hw
            exact ⟨((escaped_1253) ++ [3]), (0), _, rfl, (Same.refl _), S1287, h1286, hw⟩
          · have hw := cW_neg c1280 hw
            have hw := cW_ok hw
            have hw := hK1278 _ hw
            exact ⟨(escaped_1253), (zeros_1254), _, rfl, (Same.refl _), S1262, h1263, hw⟩
        · have hw := cW_neg c1279 hw
          refine iteF ?_
          have hw := cW_ok hw
          have hw := hK1278 _ hw
          exact ⟨(escaped_1253), (zeros_1254), _, rfl, (Same.refl _), S1262, h1263, hw⟩
      · intro σ H1289 hw
        obtain ⟨escaped_1275, zeros_1276, G1292, rfl, eG1293, S1290, h1291, hw⟩ := hw
        unfold F_escape_k2 at hw
        obtain ⟨g1294, hw⟩ := cW_grd hw
        refine ⟨_, rfl, (.inl ⟨rfl, _, SqL.of h1291⟩), _, rfl, _, _, _, rfl, rfl, h1291, (app_lenM g1294), ?_⟩
        generalize g1295 : upd H1289 p1242 _ = H1296
        obtain ⟨x1297, h1298⟩ := gen_mut g1295
        have h1299 : H1296 p1242 = some (.lst (((escaped_1275) ++ [x1266] : (List Int)).map V.int)) := snoc_map h1298
        have S1300 := S1290.mut1 x1297 (.head _) h1299
        have hw := cW_bnd hw
        refine vv_if (p := (x1266 : Int) = 0) (ta := (tOp (rI0 fun i j => V.int (i + j)) (tVar 2) (tC (V.int 1)))) (tb := (tC (V.int 0))) (t := tB (tEqI (tVar 3) (tC (V.int 0)))) (a := (zeros_1276 + 1)) (b := 0) ?hx1302 ?hy1303 ?hz1304 _ ?_
        case hx1302 => exact vt_cmp (vv_cmp (val_var rfl) val_c (fun Q q => ⟨_, _, rfl, rfl, q⟩))
        case hy1303 => exact (val_op (val_var rfl) val_c (fun Q q => ⟨_, _, rfl, rfl, q⟩))
        case hz1304 => exact val_c
        have hw := cW_bnd hw
        have hw := cW_ok hw
        have hw := hK1270 _ hw
        exact ⟨((escaped_1275) ++ [x1266]), ((if (x1266 : Int) = 0 then (zeros_1276 + 1) else 0)), _, _, rfl, (Same.trans eG1265 eG1293), S1300, h1299, hw⟩
    · intro σ H1306 hw
      obtain ⟨escaped_1253, zeros_1254, u1255, G1309, rfl, eG1310, S1307, h1308, hw⟩ := hw
      have hw := hK1252 _ (cW_forS0 (by rw [List.length_map]) hw)
      have hw : cW (F_escape_r1  (escaped_1253) (zeros_1254)) _ EE := hw
      unfold F_escape_r1 at hw
      refine ⟨_, rfl, ?_⟩
      have hw := cW_ok hw
      exact hK0 _ hw _ _ fr1249 S1307.b0 h1308

abbrev N_write_unit : List Str := ["kind", "payload"]
theorem sc_write_unit : FnScope N_write_unit ["kind", "payload"] (defScope s_write_unit) := ⟨rfl, rfl, rfl, by decide +kernel, rfl, by decide +kernel, by decide +kernel⟩
theorem ok_write_unit (D : DefX K mg "write_unit" s_write_unit ["kind", "payload"] pats_write_unit) (T : Txt w K mg AD) (c_escape : CalX P w K mg base 1 "escape" (sp_escape K AD) pats_escape) : CalX P w K mg base 2 "write_unit" (sp_write_unit K AD) pats_write_unit := by
  refine D.ok sc_write_unit (fun vs H Q E h => ?_) (fun f cdv A_ outer s H vs Q E hr h => ?_)
  · obtain ⟨G, kind', a_payload, payload', rfl, _⟩ := h
    rfl
  · obtain ⟨G, kind', a_payload, payload', rfl, sG, q_payload, hw⟩ := h
    refine ⟨_, (pss_cons (ps_if (pt_not (pt_chain op_le op_le pe_int (pv 0) (C8.pe_gc rfl T.g_GREATEST_KIND))) (pss_one (ps_raise rfl (takes_of rfl rfl rfl rfl) (pmk_own PySem.F.excBase_ValueError T.xx_OutOfRange T.xg_OutOfRange T.xk_OutOfRange (raises_own T.xb_OutOfRange T.xt_OutOfRange) rfl))) pss_nil)
      (pss_cons (ps_if (pt_cmp (pc_gt (pe_callB (call_lenLiK (K := K)) (by rfl) T.b_len (by decide +kernel) (pa_cons (pv 1) pa_nil)) (C8.pe_gc rfl T.g_MOST_OCTETS))) (pss_one (ps_raise rfl (takes_of rfl rfl rfl rfl) (pmk_own PySem.F.excBase_ValueError T.xx_OutOfRange T.xg_OutOfRange T.xk_OutOfRange (raises_own T.xb_OutOfRange T.xt_OutOfRange) rfl))) pss_nil)
      (pss_one (ps_ret (pe_op op_cat (pe_lst (pa_cons pe_int (pa_cons pe_int (pa_cons pe_int (pa_cons (pv 0) pa_nil))))) (vx_callX c_escape pat_escape_0 (.head _) hr (by decide) (takes_of rfl rfl rfl rfl) rfl (pa_cons (pe_op op_cat (pv 1) (pe_lst (pa_cons (C8.pe_gc rfl T.g_STOP) pa_nil))) pa_nil) pk_nil)))))), ?_⟩
    obtain ⟨KK, EE, hK0, hE, hw⟩ := cW_gen hw
    have S0 := Sep.startG sG
    unfold F_write_unit at hw
    refine ⟨_, rfl, _, _, rfl, rfl, _, rfl, ?_⟩
    refine iteD (fun c1313 => ?_) (fun c1313 => ?_)
    · have hw := cW_pos c1313 hw
      refine ⟨_, _, rfl, rfl, _, rfl, ?_⟩
      refine iteN (fun c1314 => ?_) (fun c1314 => ?_)
      · have hw := cW_neg c1314 hw
        exact hE 2 (cW_er hw) _ S0.b0
      · have hw := cW_pos c1314 hw
        refine ⟨_, rfl, _, _, rfl, (SqL.of (S0.bM _ _ q_payload)), _, _, rfl, rfl, _, rfl, ?_⟩
        refine iteD (fun c1315 => ?_) (fun c1315 => ?_)
        · have hw := cW_pos c1315 hw
          exact hE 2 (cW_er hw) _ S0.b0
        · have hw := cW_neg c1315 hw
          refine ⟨_, rfl, (by show 4 ≤ sizeLine; decide), fun p1316 n1317 => ?_⟩
          generalize g1318 : upd H p1316 _ = H1319
          obtain ⟨e1320, h1321⟩ := gen_new n1317 g1318
          have h1322 : H1319 p1316 = some (.lst (([0, 0, 1, kind'] : (List Int)).map V.int)) := h1321
          have fr1323 := S0.free n1317
          have S1324 := S0.new n1317 e1320 h1322 fr1323
          refine ⟨_, rfl, (by show 1 ≤ sizeLine; decide), fun p1325 n1326 => ?_⟩
          generalize g1327 : upd H1319 p1325 _ = H1328
          obtain ⟨e1329, h1330⟩ := gen_new n1326 g1327
          have h1331 : H1328 p1325 = some (.lst (([128] : (List Int)).map V.int)) := h1330
          have fr1332 := S1324.free n1326
          have S1333 := S1324.new n1326 e1329 h1331 fr1332
          obtain ⟨g1334, hw⟩ := cW_grd hw
          refine ⟨_, _, _, _, rfl, rfl, (S1333.bM _ _ q_payload), h1331, (cat_lenM g1334), fun p1335 n1336 => ?_⟩
          generalize g1337 : upd H1328 p1335 _ = H1338
          obtain ⟨e1339, h1340⟩ := gen_new n1336 g1337
          have h1341 : H1338 p1335 = some (.lst (((payload') ++ ([128]) : (List Int)).map V.int)) := cat_map h1340
          have fr1342 := S1333.free n1336
          have S1343 := S1333.new n1336 e1339 h1341 fr1342
          refine ⟨rfl, rfl, G, _, _, rfl, S1343.sG, (hide_nil h1341), cW_call hw (fun v1344 hw p1347 H1345 n1348 e1346 h1349 => ?_) (fun e he H2 e2 => hE e he H2 (Same.trans S1343.b0 e2))⟩
          have h1350 : H1345 p1347 = some (.lst ((v1344 : (List Int)).map V.int)) := h1349
          have fr1351 := S1343.free n1348
          have S1352 := S1343.new n1348 e1346 h1350 fr1351
          obtain ⟨g1353, hw⟩ := cW_grd hw
          have h1354 := (e1346 _ _ (e1339 _ _ (e1329 _ _ h1322)))
          refine ⟨_, _, _, _, rfl, rfl, h1354, h1350, (cat_lenM g1353), fun p1355 n1356 => ?_⟩
          generalize g1357 : upd H1345 p1355 _ = H1358
          obtain ⟨e1359, h1360⟩ := gen_new n1356 g1357
          have h1361 : H1358 p1355 = some (.lst ((([0, 0, 1, kind']) ++ (v1344) : (List Int)).map V.int)) := cat_map h1360
          have fr1362 := S1352.free n1356
          have S1363 := S1352.new n1356 e1359 h1361 fr1362
          have hw := cW_ok hw
          exact hK0 _ hw _ _ fr1362 S1363.b0 h1361
    · have hw := cW_neg c1313 hw
      refine ⟨_, rfl, ?_⟩
      refine iteT ?_
      exact hE 2 (cW_er hw) _ S0.b0

abbrev N__law_long : List Str := ["settings", "header", "head", "cell", "payload", "e"]
theorem sc__law_long : FnScope N__law_long ["settings", "header", "head", "cell"] (defScope s__law_long) := ⟨rfl, rfl, rfl, by decide +kernel, rfl, by decide +kernel, by decide +kernel⟩
theorem ok__law_long (D : DefX K mg "_law_long" s__law_long ["settings", "header", "head", "cell"] pats__law_long) (T : Txt w K mg AD) (c_write_slice : CalX P w K mg base 4 "write_slice" (sp_write_slice K AD) pats_write_slice) (c_write_unit : CalX P w K mg base 2 "write_unit" (sp_write_unit K AD) pats_write_unit) : CalX P w K mg base 5 "_law_long" (sp__law_long K AD) pats__law_long := by
  refine D.ok sc__law_long (fun vs H Q E h => ?_) (fun f cdv A_ outer s H vs Q E hr h => ?_)
  · obtain ⟨G, p_settings, p_settings_fmt, dx_settings, dx_settings_fmt, settings', p_header, dx_header, header', a_head, head', cell', rfl, _⟩ := h
    rfl
  · obtain ⟨G, p_settings, p_settings_fmt, dx_settings, dx_settings_fmt, settings', p_header, dx_header, header', a_head, head', cell', rfl, sG, h_p_settings, h_p_settings_fmt, h_p_header, q_head, hw⟩ := h
    refine ⟨_, (pss_cons (ps_if (pt_cmp (pc_neI (pe_op op_mod (pe_callTy call_int1 (by rfl) T.b_int (by decide +kernel) (pa_cons (pv 3) pa_nil)) pe_int) pe_int)) (pss_one (ps_ret pe_bl)) pss_nil)
      (pss_cons (ps_set (i := 4) sc__law_long.nd rfl (Or.inl rfl) (vx_callX c_write_slice pat_write_slice_0 (.head _) hr (by decide) (takes_of rfl rfl rfl rfl) rfl (pa_cons (pv 0) (pa_cons (pv 1) (pa_cons (pe_op op_rep (pe_lst (pa_cons pe_int pa_nil)) pe_int) pa_nil))) pk_nil))
      (pss_cons (ps_if (pt_cmpR (op_neT (encOk_L encOk_int) hr.units) (pv 4) (pe_op op_cat (pe_op op_cat (pe_lst (pa_cons (pe_callB (call_lenLiK (K := K)) (by rfl) T.b_len (by decide +kernel) (pa_cons (pv 2) pa_nil)) pa_nil)) (pv 2)) (pe_op op_rep (pe_lst (pa_cons pe_int pa_nil)) pe_int)) (nomark _)) (pss_one (ps_ret pe_bl)) pss_nil)
      (pss_cons (ps_try_as (i := 5) rfl rfl sc__law_long.nd rfl rfl ⟨rfl, by decide, .inl T.xg_OutOfRange⟩ (takes_of rfl rfl rfl rfl) (fun W pn xe tk pse => (pss_one (ps_expr (vx_callX c_write_unit pat_write_unit_0 (.head _) hr (by decide) tk rfl (pa_cons pe_int (pa_cons (pv 4) pa_nil)) pk_nil)))) (fun a oe cls d pn hz hf => (pss_one (ps_ret (pe_callB (call_isXB (K := K) hz hf) (by rfl) T.b_isinstance (by decide +kernel) (pa_cons (pv 5) (pa_cons (pe_bltn (v := V.ty "ValueError") (u := Value.type "ValueError") (by rfl) T.b_ValueError (by decide +kernel) rfl) pa_nil)))))))
      (pss_one (ps_ret pe_bl)))))), ?_⟩
    obtain ⟨KK, EE, hK0, hE, hw⟩ := cW_gen hw
    have S0 := Sep.startG sG
    unfold F__law_long at hw
    refine ⟨_, rfl, .inl ⟨_, rfl, ?_⟩⟩
    refine ⟨_, _, rfl, rfl, (show (0 : Int) < 32 by decide), _, _, rfl, rfl, _, rfl, ?_⟩
    refine iteN (fun c1364 => ?_) (fun c1364 => ?_)
    · have hw := cW_neg c1364 hw
      have hw := cW_ok hw
      exact hK0 _ hw _ S0.b0
    · have hw := cW_pos c1364 hw
      refine ⟨_, rfl, _, rfl, (by show 1 ≤ sizeLine; decide), fun p1365 n1366 => ?_⟩
      generalize g1367 : upd H p1365 _ = H1368
      obtain ⟨e1369, h1370⟩ := gen_new n1366 g1367
      have h1371 : H1368 p1365 = some (.lst (([0] : (List Int)).map V.int)) := h1370
      have fr1372 := S0.free n1366
      have S1373 := S0.new n1366 e1369 h1371 fr1372
      obtain ⟨g1374, hw⟩ := cW_grd hw
      refine ⟨_, _, _, rfl, rfl, h1371, g1374.1, g1374.2.1, (rep_lenM g1374.2.2), fun p1375 n1376 => ?_⟩
      generalize g1377 : upd H1368 p1375 _ = H1378
      obtain ⟨e1379, h1380⟩ := gen_new n1376 g1377
      have h1381 : H1378 p1375 = some (.lst ((repL ([0]) (65536) : (List Int)).map V.int)) := rep_map h1380
      have fr1382 := S1373.free n1376
      have S1383 := S1373.new n1376 e1379 h1381 fr1382
      refine ⟨rfl, rfl, G, _, _, _, _, settings', _, _, header', _, _, rfl, S1383.sG, (hide_nil (S1383.bM _ _ h_p_settings)), (hide_nil (S1383.bM _ _ h_p_settings_fmt)), (hide_nil (S1383.bM _ _ h_p_header)), (hide_nil h1381), cW_call hw (fun v1384 hw p1387 H1385 n1388 e1386 h1389 => ?_) (fun e he H2 e2 => hE e he H2 (Same.trans S1383.b0 e2))⟩
      have h1390 : H1385 p1387 = some (.lst ((v1384 : (List Int)).map V.int)) := h1389
      have fr1391 := S1383.free n1388
      have S1392 := S1383.new n1388 e1386 h1390 fr1391
      refine ⟨_, rfl, _, rfl, _, _, rfl, (SqL.of (S1392.bM _ _ q_head)), (by show 1 ≤ sizeLine; decide), fun p1393 n1394 => ?_⟩
      generalize g1395 : upd H1385 p1393 _ = H1396
      obtain ⟨e1397, h1398⟩ := gen_new n1394 g1395
      have h1399 : H1396 p1393 = some (.lst (([(((head') : (List Int)).length : Int)] : (List Int)).map V.int)) := h1398
      have fr1400 := S1392.free n1394
      have S1401 := S1392.new n1394 e1397 h1399 fr1400
      obtain ⟨g1402, hw⟩ := cW_grd hw
      refine ⟨_, rfl, _, _, _, _, rfl, rfl, h1399, (S1401.bM _ _ q_head), (cat_lenM g1402), fun p1403 n1404 => ?_⟩
      generalize g1405 : upd H1396 p1403 _ = H1406
      obtain ⟨e1407, h1408⟩ := gen_new n1404 g1405
      have h1409 : H1406 p1403 = some (.lst ((([(((head') : (List Int)).length : Int)]) ++ (head') : (List Int)).map V.int)) := cat_map h1408
      have fr1410 := S1401.free n1404
      have S1411 := S1401.new n1404 e1407 h1409 fr1410
      refine ⟨(by show 1 ≤ sizeLine; decide), fun p1412 n1413 => ?_⟩
      generalize g1414 : upd H1406 p1412 _ = H1415
      obtain ⟨e1416, h1417⟩ := gen_new n1413 g1414
      have h1418 : H1415 p1412 = some (.lst (([0] : (List Int)).map V.int)) := h1417
      have fr1419 := S1411.free n1413
      have S1420 := S1411.new n1413 e1416 h1418 fr1419
      obtain ⟨g1421, hw⟩ := cW_grd hw
      refine ⟨_, _, _, rfl, rfl, h1418, g1421.1, g1421.2.1, (rep_lenM g1421.2.2), fun p1422 n1423 => ?_⟩
      generalize g1424 : upd H1415 p1422 _ = H1425
      obtain ⟨e1426, h1427⟩ := gen_new n1423 g1424
      have h1428 : H1425 p1422 = some (.lst ((repL ([0]) (65536) : (List Int)).map V.int)) := rep_map h1427
      have fr1429 := S1420.free n1423
      have S1430 := S1420.new n1423 e1426 h1428 fr1429
      obtain ⟨g1431, hw⟩ := cW_grd hw
      have h1432 := (e1426 _ _ (e1416 _ _ h1409))
      refine ⟨_, _, _, _, rfl, rfl, h1432, h1428, (cat_lenM g1431), fun p1433 n1434 => ?_⟩
      generalize g1435 : upd H1425 p1433 _ = H1436
      obtain ⟨e1437, h1438⟩ := gen_new n1434 g1435
      have h1439 : H1436 p1433 = some (.lst (((([(((head') : (List Int)).length : Int)]) ++ (head')) ++ (repL ([0]) (65536)) : (List Int)).map V.int)) := cat_map h1438
      have fr1440 := S1430.free n1434
      have S1441 := S1430.new n1434 e1437 h1439 fr1440
      have h1442 := (e1437 _ _ (e1426 _ _ (e1416 _ _ (e1407 _ _ (e1397 _ _ h1390)))))
      refine ⟨_, _, (rp_mk_ints h1442), (rp_mk_ints h1439), _, rfl, ?_⟩
      refine iteN (fun c1443 => ?_) (fun c1443 => ?_)
      · have hw := cW_neg c1443 hw
        have hw := cW_ok hw
        exact hK0 _ hw _ S1441.b0
      · have hw := cW_pos c1443 hw
        refine ⟨_, rfl, rfl, rfl, G, _, _, _, rfl, S1441.sG, (hide_nil h1442), cW_try hw (fun v1444 hw p1447 H1445 n1448 e1446 h1449 => ?_) ?_⟩
        · have h1450 : H1445 p1447 = some (.lst ((v1444 : (List Int)).map V.int)) := h1449
          have fr1451 := S1441.free n1448
          have S1452 := S1441.new n1448 e1446 h1450 fr1451
          have hw := cW_ok hw
          exact hK0 _ hw _ S1452.b0
        · intro e hm hw H1453 e1454
          have S1455 := S1441.same e1454
          obtain rfl := mem_one hm
          refine ⟨true, T.xm_OutOfRange_OutOfRange, fun _ a1456 na1457 => ?_, fun q => nomatch q⟩
          refine ⟨_, rfl, _, _, _, rfl, rfl, T.xc_OutOfRange, rfl, T.xv_OutOfRange_ValueError, ?_⟩
          have hw := cW_ok hw
          exact hK0 _ hw _ S1455.b0

abbrev N_clip : List Str := ["value", "low", "high"]
theorem sc_clip : FnScope N_clip ["value", "low", "high"] (defScope s_clip) := ⟨rfl, rfl, rfl, by decide +kernel, rfl, by decide +kernel, by decide +kernel⟩
theorem ok_clip (D : DefX K mg "clip" s_clip ["value", "low", "high"] pats_clip) (T : Txt w K mg AD)  : CalX P w K mg base 1 "clip" (sp_clip K AD) pats_clip := by
  refine D.ok sc_clip (fun vs H Q E h => ?_) (fun f cdv A_ outer s H vs Q E hr h => ?_)
  · obtain ⟨G, value', low', high', rfl, _⟩ := h
    rfl
  · obtain ⟨G, value', low', high', rfl, sG, hw⟩ := h
    refine ⟨_, (pss_one (ps_ret (pe_callB (call_min2 rfl) (by rfl) T.b_min (by decide +kernel) (pa_cons (pe_callB (call_max2 rfl) (by rfl) T.b_max (by decide +kernel) (pa_cons (pv 0) (pa_cons (pv 1) pa_nil))) (pa_cons (pv 2) pa_nil))))), ?_⟩
    obtain ⟨KK, EE, hK0, hE, hw⟩ := cW_gen hw
    have S0 := Sep.startG sG
    unfold F_clip at hw
    refine ⟨_, rfl, _, rfl, _, _, rfl, _, rfl, _, _, rfl, ?_⟩
    have hw := cW_ok hw
    exact hK0 _ hw

abbrev N_level_with : List Str := ["picture_header", "delta"]
theorem sc_level_with : FnScope N_level_with ["picture_header", "delta"] (defScope s_level_with) := ⟨rfl, rfl, rfl, by decide +kernel, rfl, by decide +kernel, by decide +kernel⟩
theorem ok_level_with (D : DefX K mg "level_with" s_level_with ["picture_header", "delta"] pats_level_with) (T : Txt w K mg AD) (c_clip : CalX P w K mg base 1 "clip" (sp_clip K AD) pats_clip) : CalX P w K mg base 2 "level_with" (sp_level_with K AD) pats_level_with := by
  refine D.ok sc_level_with (fun vs H Q E h => ?_) (fun f cdv A_ outer s H vs Q E hr h => ?_)
  · obtain ⟨G, p_picture_header, l_picture_header_store, l_picture_header_refs, dx_picture_header, picture_header', delta', rfl, _⟩ := h
    rfl
  · obtain ⟨G, p_picture_header, l_picture_header_store, l_picture_header_refs, dx_picture_header, picture_header', delta', rfl, sG, h_p_picture_header, h_l_picture_header_store, h_l_picture_header_refs, hw⟩ := h
    refine ⟨_, (pss_one (ps_ret (vx_callX c_clip pat_clip_0 (.head _) hr (by decide) (takes_of rfl rfl rfl rfl) rfl (pa_cons (pe_op op_add (fldK (K := K) (pv 0)) (pv 1)) (pa_cons pe_int (pa_cons (C8.pe_gc rfl T.g_GREATEST_LEVEL) pa_nil))) pk_nil))), ?_⟩
    obtain ⟨KK, EE, hK0, hE, hw⟩ := cW_gen hw
    have S0 := Sep.startG sG
    unfold F_level_with at hw
    refine ⟨_, rfl, _, _, _, _, _, rfl, (S0.bM _ _ h_p_picture_header), T.cl_PictureHeader, T.n_PictureHeader_level, rfl, _, rfl, _, _, rfl, rfl, rfl, rfl, G, _, _, _, rfl, S0.sG, cW_call hw (fun v1458 hw => ?_) (fun e he => hE e he _ S0.b0)⟩
    have hw := cW_ok hw
    exact hK0 _ hw _ S0.b0

abbrev N_slice_level : List Str := ["picture_header", "slice_header"]
theorem sc_slice_level : FnScope N_slice_level ["picture_header", "slice_header"] (defScope s_slice_level) := ⟨rfl, rfl, rfl, by decide +kernel, rfl, by decide +kernel, by decide +kernel⟩
theorem ok_slice_level (D : DefX K mg "slice_level" s_slice_level ["picture_header", "slice_header"] pats_slice_level) (T : Txt w K mg AD) (c_level_with : CalX P w K mg base 2 "level_with" (sp_level_with K AD) pats_level_with) : CalX P w K mg base 3 "slice_level" (sp_slice_level K AD) pats_slice_level := by
  refine D.ok sc_slice_level (fun vs H Q E h => ?_) (fun f cdv A_ outer s H vs Q E hr h => ?_)
  · obtain ⟨G, p_picture_header, l_picture_header_store, l_picture_header_refs, dx_picture_header, picture_header', p_slice_header, dx_slice_header, slice_header', rfl, _⟩ := h
    rfl
  · obtain ⟨G, p_picture_header, l_picture_header_store, l_picture_header_refs, dx_picture_header, picture_header', p_slice_header, dx_slice_header, slice_header', rfl, sG, h_p_picture_header, h_l_picture_header_store, h_l_picture_header_refs, h_p_slice_header, hw⟩ := h
    refine ⟨_, (pss_one (ps_ret (vx_callX c_level_with pat_level_with_0 (.head _) hr (by decide) (takes_of rfl rfl rfl rfl) rfl (pa_cons (pv 0) (pa_cons (fldK (K := K) (pv 1)) pa_nil)) pk_nil))), ?_⟩
    obtain ⟨KK, EE, hK0, hE, hw⟩ := cW_gen hw
    have S0 := Sep.startG sG
    unfold F_slice_level at hw
    refine ⟨_, rfl, _, rfl, _, _, _, _, _, rfl, (S0.bM _ _ h_p_slice_header), T.cl_SliceHeader, T.n_SliceHeader_delta, rfl, rfl, rfl, G, _, _, _, _, picture_header', _, rfl, S0.sG, (hide_nil (S0.bM _ _ h_p_picture_header)), (hide_nil (S0.bM _ _ h_l_picture_header_store)), (hide_nil (S0.bM _ _ h_l_picture_header_refs)), cW_call hw (fun v1459 hw H1460 e1461 => ?_) (fun e he H2 e2 => hE e he H2 (Same.trans S0.b0 e2))⟩
    have S1462 := S0.same e1461
    have hw := cW_ok hw
    exact hK0 _ hw _ S1462.b0

abbrev N__law_bits : List Str := ["value", "count", "k"]
theorem sc__law_bits : FnScope N__law_bits ["value", "count"] (defScope s__law_bits) := ⟨rfl, rfl, rfl, by decide +kernel, rfl, by decide +kernel, by decide +kernel⟩
theorem ok__law_bits (D : DefX K mg "_law_bits" s__law_bits ["value", "count"] pats__law_bits) (T : Txt w K mg AD)  : CalX P w K mg base 1 "_law_bits" (sp__law_bits K AD) pats__law_bits := by
  refine D.ok sc__law_bits (fun vs H Q E h => ?_) (fun f cdv A_ outer s H vs Q E hr h => ?_)
  · obtain ⟨G, value', count', rfl, _⟩ := h
    rfl
  · obtain ⟨G, value', count', rfl, sG, hw⟩ := h
    refine ⟨_, (pss_one (ps_ret (pe_lc (own := [("k", 2)]) (g := gName 2) (by rfl) sc__law_bits.nd (pi_range1 rfl T.b_range (pa_cons (pv 1) pa_nil)) (blkOk_by (own := [("k", 2)]) (N := N__law_bits) (sc := defScope s__law_bits) (by decide +kernel)) (fun _ _ _ _ _ => (pg_name (i := 2) sc__law_bits.nd rfl (Or.inl rfl))) (fun _ _ _ _ _ => pts_nil) (fun _ _ _ _ _ => (pe_op op_and (pe_op op_shr (pv 0) (pe_op op_sub (pe_op op_sub (pv 1) pe_int) (pv 2))) pe_int))))), ?_⟩
    obtain ⟨KK, EE, hK0, hE, hw⟩ := cW_gen hw
    have S0 := Sep.startG sG
    unfold F__law_bits at hw
    obtain ⟨g1463, hw⟩ := cW_grd hw
    obtain ⟨K1467, hK1468, hw⟩ := cW_push hw
    refine ⟨_, rfl, _, rfl, g1463.1, g1463.2, fun D1469 n1470 => lc_range (lo := 0) (n := Int.toNat (count')) (fun i H' => ∃ (G' : Hp) (acc1472 : (List Int)), Same G G' ∧ Sep [] H G G' H' [D1469] ∧ H' D1469 = some (.lst ((acc1472 : (List Int)).map V.int)) ∧ Same H H' ∧ cW (mapA (List.drop i (rng (0) (Int.toNat (count')))) acc1472 (fun x => noEr (F__law_bits_c1 (value') (count') x))) K1467 EE) ?_ ?_ ?_⟩
    · generalize g1474 : upd H D1469 _ = H1475
      obtain ⟨e1476, h1477⟩ := gen_new n1470 g1474
      have fr1478 := S0.free n1470
      have S1479 := S0.new n1470 e1476 h1477 fr1478
      exact ⟨_, [], Same.refl _, S1479, h1477, e1476, hw⟩
    · intro i H1480 hi hw
      obtain ⟨G1483, acc1485, eG1484, S1481, h1482, eo1491, hw⟩ := hw
      obtain ⟨z1492, hw⟩ := cW_mapA (rng_get hi) hw
      generalize (0 + (i : Int)) = x1493 at hw ⊢
      have hw := cW_noEr hw
      have hw : cW (F__law_bits_c1 (value') (count') (x1493)) _ (fun _ => False) := hw
      unfold F__law_bits_c1 at hw
      refine ⟨rfl, ?_⟩
      refine tyes_go ?_
      obtain ⟨g1495, hw⟩ := cW_grd hw
      refine ⟨_, rfl, _, rfl, _, _, rfl, rfl, _, rfl, _, _, rfl, rfl, _, _, rfl, rfl, g1495, _, _, rfl, rfl, _, h1482, (app_lenM z1492), ?_⟩
      generalize g1496 : upd H1480 D1469 _ = H1497
      obtain ⟨x1498, h1499⟩ := gen_mut g1496
      have S1500 := S1481.mut1 x1498 (.head _) h1499
      have hw := cW_ok hw
      exact ⟨_, (acc1485 ++ [(PySem.Builtin.bitAnd ((value' / 2 ^ Int.toNat (((count' - 1) - x1493)))) (1))]), eG1484, S1500, (snoc_map h1499), (same_mut eo1491 x1498 n1470), hw⟩
    intro H1501 hw
    obtain ⟨G1504, acc1506, eG1505, S1502, h1503, eo1512, hw⟩ := hw
    have hw := hK1468 _ (cW_mapA0 (rng_len _ _).symm hw)
    have fr1513 := S0.free n1470
    have hw := cW_ok hw
    exact hK0 _ hw _ _ fr1513 S1502.b0 h1503

abbrev N__law_ue : List Str := ["value", "size"]
theorem sc__law_ue : FnScope N__law_ue ["value"] (defScope s__law_ue) := ⟨rfl, rfl, rfl, by decide +kernel, rfl, by decide +kernel, by decide +kernel⟩
theorem ok__law_ue (D : DefX K mg "_law_ue" s__law_ue ["value"] pats__law_ue) (T : Txt w K mg AD) (c__law_bits : CalX P w K mg base 1 "_law_bits" (sp__law_bits K AD) pats__law_bits) : CalX P w K mg base 2 "_law_ue" (sp__law_ue K AD) pats__law_ue := by
  refine D.ok sc__law_ue (fun vs H Q E h => ?_) (fun f cdv A_ outer s H vs Q E hr h => ?_)
  · obtain ⟨G, value', rfl, _⟩ := h
    rfl
  · obtain ⟨G, value', rfl, sG, hw⟩ := h
    refine ⟨_, (pss_cons (ps_set (i := 1) sc__law_ue.nd rfl (Or.inl rfl) (pe_bits (pe_op op_add (pv 0) pe_int)))
      (pss_one (ps_ret (pe_op op_cat (pe_op op_rep (pe_lst (pa_cons pe_int pa_nil)) (pe_op op_sub (pv 1) pe_int)) (vx_callX c__law_bits pat__law_bits_0 (.head _) hr (by decide) (takes_of rfl rfl rfl rfl) rfl (pa_cons (pe_op op_add (pv 0) pe_int) (pa_cons (pv 1) pa_nil)) pk_nil))))), ?_⟩
    obtain ⟨KK, EE, hK0, hE, hw⟩ := cW_gen hw
    have S0 := Sep.startG sG
    unfold F__law_ue at hw
    refine ⟨_, rfl, _, _, rfl, rfl, _, rfl, ?_⟩
    have hw := cW_bnd hw
    refine ⟨(by show 1 ≤ sizeLine; decide), fun p1515 n1516 => ?_⟩
    generalize g1517 : upd H p1515 _ = H1518
    obtain ⟨e1519, h1520⟩ := gen_new n1516 g1517
    have h1521 : H1518 p1515 = some (.lst (([0] : (List Int)).map V.int)) := h1520
    have fr1522 := S0.free n1516
    have S1523 := S0.new n1516 e1519 h1521 fr1522
    obtain ⟨g1524, hw⟩ := cW_grd hw
    refine ⟨_, rfl, _, _, rfl, rfl, _, _, _, rfl, rfl, h1521, g1524.1, g1524.2.1, (rep_lenM g1524.2.2), fun p1525 n1526 => ?_⟩
    generalize g1527 : upd H1518 p1525 _ = H1528
    obtain ⟨e1529, h1530⟩ := gen_new n1526 g1527
    have h1531 : H1528 p1525 = some (.lst ((repL ([0]) ((((PySem.Builtin.Int.intBits ((value' + 1)) : Nat) : Int) - 1)) : (List Int)).map V.int)) := rep_map h1530
    have fr1532 := S1523.free n1526
    have S1533 := S1523.new n1526 e1529 h1531 fr1532
    refine ⟨_, rfl, _, _, rfl, rfl, _, rfl, rfl, rfl, G, _, _, rfl, S1533.sG, cW_call hw (fun v1534 hw p1537 H1535 n1538 e1536 h1539 => ?_) (fun e he H2 e2 => hE e he H2 (Same.trans S1533.b0 e2))⟩
    have h1540 : H1535 p1537 = some (.lst ((v1534 : (List Int)).map V.int)) := h1539
    have fr1541 := S1533.free n1538
    have S1542 := S1533.new n1538 e1536 h1540 fr1541
    obtain ⟨g1543, hw⟩ := cW_grd hw
    have h1544 := (e1536 _ _ h1531)
    refine ⟨_, _, _, _, rfl, rfl, h1544, h1540, (cat_lenM g1543), fun p1545 n1546 => ?_⟩
    generalize g1547 : upd H1535 p1545 _ = H1548
    obtain ⟨e1549, h1550⟩ := gen_new n1546 g1547
    have h1551 : H1548 p1545 = some (.lst (((repL ([0]) ((((PySem.Builtin.Int.intBits ((value' + 1)) : Nat) : Int) - 1))) ++ (v1534) : (List Int)).map V.int)) := cat_map h1550
    have fr1552 := S1542.free n1546
    have S1553 := S1542.new n1546 e1549 h1551 fr1552
    have hw := cW_ok hw
    exact hK0 _ hw _ _ fr1552 S1553.b0 h1551

abbrev N__law_se : List Str := ["value"]
theorem sc__law_se : FnScope N__law_se ["value"] (defScope s__law_se) := ⟨rfl, rfl, rfl, by decide +kernel, rfl, by decide +kernel, by decide +kernel⟩
theorem ok__law_se (D : DefX K mg "_law_se" s__law_se ["value"] pats__law_se) (T : Txt w K mg AD) (c__law_ue : CalX P w K mg base 2 "_law_ue" (sp__law_ue K AD) pats__law_ue) : CalX P w K mg base 3 "_law_se" (sp__law_se K AD) pats__law_se := by
  refine D.ok sc__law_se (fun vs H Q E h => ?_) (fun f cdv A_ outer s H vs Q E hr h => ?_)
  · obtain ⟨G, value', rfl, _⟩ := h
    rfl
  · obtain ⟨G, value', rfl, sG, hw⟩ := h
    refine ⟨_, (pss_cons (ps_if (pt_cmp (pc_gt (pv 0) pe_int)) (pss_one (ps_ret (vx_callX c__law_ue pat__law_ue_0 (.head _) hr (by decide) (takes_of rfl rfl rfl rfl) rfl (pa_cons (pe_op op_sub (pe_op op_mul pe_int (pv 0)) pe_int) pa_nil) pk_nil))) pss_nil)
      (pss_one (ps_ret (vx_callX c__law_ue pat__law_ue_0 (.head _) hr (by decide) (takes_of rfl rfl rfl rfl) rfl (pa_cons (pe_op op_mul (pe_un un_neg pe_int) (pv 0)) pa_nil) pk_nil)))), ?_⟩
    obtain ⟨KK, EE, hK0, hE, hw⟩ := cW_gen hw
    have S0 := Sep.startG sG
    unfold F__law_se at hw
    refine ⟨_, rfl, _, _, rfl, rfl, _, rfl, ?_⟩
    refine iteD (fun c1554 => ?_) (fun c1554 => ?_)
    · have hw := cW_pos c1554 hw
      refine ⟨_, rfl, _, _, rfl, rfl, (.inl ⟨by decide, by decide⟩), _, _, rfl, rfl, rfl, rfl, G, _, rfl, S0.sG, cW_call hw (fun v1555 hw p1558 H1556 n1559 e1557 h1560 => ?_) (fun e he H2 e2 => hE e he H2 (Same.trans S0.b0 e2))⟩
      have h1561 : H1556 p1558 = some (.lst ((v1555 : (List Int)).map V.int)) := h1560
      have fr1562 := S0.free n1559
      have S1563 := S0.new n1559 e1557 h1561 fr1562
      have hw := cW_ok hw
      exact hK0 _ hw _ _ fr1562 S1563.b0 h1561
    · have hw := cW_neg c1554 hw
      refine ⟨_, rfl, _, rfl, _, _, rfl, rfl, (.inl ⟨by decide, by decide⟩), rfl, rfl, G, _, rfl, S0.sG, cW_call hw (fun v1564 hw p1567 H1565 n1568 e1566 h1569 => ?_) (fun e he H2 e2 => hE e he H2 (Same.trans S0.b0 e2))⟩
      have h1570 : H1565 p1567 = some (.lst ((v1564 : (List Int)).map V.int)) := h1569
      have fr1571 := S0.free n1568
      have S1572 := S0.new n1568 e1566 h1570 fr1571
      have hw := cW_ok hw
      exact hK0 _ hw _ _ fr1571 S1572.b0 h1570

abbrev N__check_numbers : List Str := ["settings", "header"]
theorem sc__check_numbers : FnScope N__check_numbers ["settings", "header"] (defScope s__check_numbers) := ⟨rfl, rfl, rfl, by decide +kernel, rfl, by decide +kernel, by decide +kernel⟩
theorem ok__check_numbers (D : DefX K mg "_check_numbers" s__check_numbers ["settings", "header"] pats__check_numbers) (T : Txt w K mg AD) (c__require : CalX P w K mg base 1 "_require" (sp__require K AD) pats__require) : CalX P w K mg base 2 "_check_numbers" (sp__check_numbers K AD) pats__check_numbers := by
  refine D.ok sc__check_numbers (fun vs H Q E h => ?_) (fun f cdv A_ outer s H vs Q E hr h => ?_)
  · obtain ⟨G, p_settings, p_settings_fmt, dx_settings, dx_settings_fmt, settings', p_header, l_header_store, l_header_refs, dx_header, header', rfl, _⟩ := h
    rfl
  · obtain ⟨G, p_settings, p_settings_fmt, dx_settings, dx_settings_fmt, settings', p_header, l_header_store, l_header_refs, dx_header, header', rfl, sG, h_p_settings, h_p_settings_fmt, h_p_header, h_l_header_store, h_l_header_refs, hw⟩ := h
    refine ⟨_, (C8.pss_cut (ps_expr (vx_callX c__require pat__require_0 (.head _) hr (by decide) (takes_of rfl rfl rfl rfl) rfl (pa_cons (pe_chain op_le op_le pe_int (fldK (K := K) (pv 1)) (C8.pe_gc rfl T.g_GREATEST_NUMBER)) (pa_cons pe_str pa_nil)) pk_nil))
      (C8.pss_cut (ps_expr (vx_callX c__require pat__require_0 (.head _) hr (by decide) (takes_of rfl rfl rfl rfl) rfl (pa_cons (pe_cmpR (op_inS (K := K)) (fldK (K := K) (pv 1)) (C8.pe_gc (v := V.ref AD.t_KINDS) rfl T.g_KINDS) (by with_unfolding_all rfl)) (pa_cons pe_str pa_nil)) pk_nil))
      (C8.pss_cut (ps_expr (vx_callX c__require pat__require_0 (.head _) hr (by decide) (takes_of rfl rfl rfl rfl) rfl (pa_cons (pe_chain op_le op_le pe_int (fldK (K := K) (pv 1)) (C8.pe_gc rfl T.g_GREATEST_LEVEL)) (pa_cons pe_str pa_nil)) pk_nil))
      (C8.pss_cut (ps_expr (vx_callX c__require pat__require_0 (.head _) hr (by decide) (takes_of rfl rfl rfl rfl) rfl (pa_cons (pe_chain op_le op_le pe_int (fldK (K := K) (pv 1)) pe_int) (pa_cons pe_str pa_nil)) pk_nil))
      (C8.pss_cut (ps_expr (vx_callX c__require pat__require_0 (.head _) hr (by decide) (takes_of rfl rfl rfl rfl) rfl (pa_cons (pe_or (pe_cmp (pc_eqI (fldK (K := K) (pv 1)) (C8.pe_gc rfl T.g_EVEN_WEIGHT))) (pe_one (pe_cmpR op_eq (fldK (K := K) (pv 1)) pe_str (nomark _)))) (pa_cons pe_str pa_nil)) pk_nil))
      (C8.pss_cut (ps_expr (vx_callX c__require pat__require_0 (.head _) hr (by decide) (takes_of rfl rfl rfl rfl) rfl (pa_cons (pe_chain op_le op_lt pe_int (fldK (K := K) (pv 1)) (fldK (K := K) (pv 0))) (pa_cons pe_str pa_nil)) pk_nil))
      (C8.pss_cut (ps_expr (vx_callX c__require pat__require_0 (.head _) hr (by decide) (takes_of rfl rfl rfl rfl) rfl (pa_cons (pe_chain op_le op_le (pe_un un_neg pe_int) (fldK (K := K) (pv 1)) pe_int) (pa_cons pe_str pa_nil)) pk_nil))
      (pss_one (ps_expr (vx_callX c__require pat__require_0 (.head _) hr (by decide) (takes_of rfl rfl rfl rfl) rfl (pa_cons (pe_or (pe_cmp (pc_eqI (fldK (K := K) (pv 1)) pe_int)) (pe_one (fldK (K := K) (pv 0)))) (pa_cons pe_str pa_nil)) pk_nil)))))))))), ?_⟩
    obtain ⟨KK, EE, hK0, hE, hw⟩ := cW_gen hw
    have S0 := Sep.startG sG
    unfold F__check_numbers at hw
    refine ⟨fun σ H' => ∃ (G' : Hp), σ = [some (V.ref p_settings), some (V.ref p_header)] ∧ Same G G' ∧ Sep [] H G G' H' [] ∧ cW (F__check_numbers_k1 (settings') (header') ) KK EE, ?_, ?_⟩
    · obtain ⟨K1575, hK1576, hw⟩ := cW_push hw
      refine ⟨_, rfl, _, _, _, _, _, rfl, (S0.bM _ _ h_p_header), T.cl_PictureHeader, T.n_PictureHeader_number, rfl, _, _, rfl, rfl, _, rfl, ?_⟩
      refine iteD (fun c1577 => ?_) (fun c1577 => ?_)
      · have hw := cW_pos c1577 hw
        refine ⟨_, _, rfl, rfl, rfl, rfl, G, _, _, rfl, S0.sG, cW_call hw (fun v1578 hw => ?_) (fun e he => hE e he _ S0.b0)⟩
        have hw := cW_ok hw
        have hw := hK1576 _ hw
        exact ⟨_, rfl, (Same.refl _), S0, hw⟩
      · have hw := cW_neg c1577 hw
        refine ⟨rfl, rfl, G, _, _, rfl, S0.sG, cW_call hw (fun v1579 hw => ?_) (fun e he => hE e he _ S0.b0)⟩
        have hw := cW_ok hw
        have hw := hK1576 _ hw
        exact ⟨_, rfl, (Same.refl _), S0, hw⟩
    · intro σ H1580 hw
      obtain ⟨G1582, rfl, eG1583, S1581, hw⟩ := hw
      unfold F__check_numbers_k1 at hw
      refine ⟨fun σ H' => ∃ (G' : Hp), σ = [some (V.ref p_settings), some (V.ref p_header)] ∧ Same G1582 G' ∧ Sep [] H G G' H' [] ∧ cW (F__check_numbers_k2 (settings') (header') ) KK EE, ?_, ?_⟩
      · obtain ⟨K1586, hK1587, hw⟩ := cW_push hw
        refine ⟨_, rfl, _, _, _, _, _, rfl, (S1581.bM _ _ h_p_header), T.cl_PictureHeader, T.n_PictureHeader_kind, rfl, _, _, ([("I" : Str), ("P" : Str), ("B" : Str)] : List Str), rfl, rfl, (.inr (T.ts_KINDS _)), rfl, rfl, G1582, _, _, rfl, S1581.sG, cW_call hw (fun v1588 hw => ?_) (fun e he => hE e he _ S1581.b0)⟩
        have hw := cW_ok hw
        have hw := hK1587 _ hw
        exact ⟨_, rfl, (Same.refl _), S1581, hw⟩
      · intro σ H1589 hw
        obtain ⟨G1591, rfl, eG1592, S1590, hw⟩ := hw
        unfold F__check_numbers_k2 at hw
        refine ⟨fun σ H' => ∃ (G' : Hp), σ = [some (V.ref p_settings), some (V.ref p_header)] ∧ Same G1591 G' ∧ Sep [] H G G' H' [] ∧ cW (F__check_numbers_k3 (settings') (header') ) KK EE, ?_, ?_⟩
        · obtain ⟨K1595, hK1596, hw⟩ := cW_push hw
          refine ⟨_, rfl, _, _, _, _, _, rfl, (S1590.bM _ _ h_p_header), T.cl_PictureHeader, T.n_PictureHeader_level, rfl, _, _, rfl, rfl, _, rfl, ?_⟩
          refine iteD (fun c1597 => ?_) (fun c1597 => ?_)
          · have hw := cW_pos c1597 hw
            refine ⟨_, _, rfl, rfl, rfl, rfl, G1591, _, _, rfl, S1590.sG, cW_call hw (fun v1598 hw => ?_) (fun e he => hE e he _ S1590.b0)⟩
            have hw := cW_ok hw
            have hw := hK1596 _ hw
            exact ⟨_, rfl, (Same.refl _), S1590, hw⟩
          · have hw := cW_neg c1597 hw
            refine ⟨rfl, rfl, G1591, _, _, rfl, S1590.sG, cW_call hw (fun v1599 hw => ?_) (fun e he => hE e he _ S1590.b0)⟩
            have hw := cW_ok hw
            have hw := hK1596 _ hw
            exact ⟨_, rfl, (Same.refl _), S1590, hw⟩
        · intro σ H1600 hw
          obtain ⟨G1602, rfl, eG1603, S1601, hw⟩ := hw
          unfold F__check_numbers_k3 at hw
          refine ⟨fun σ H' => ∃ (G' : Hp), σ = [some (V.ref p_settings), some (V.ref p_header)] ∧ Same G1602 G' ∧ Sep [] H G G' H' [] ∧ cW (F__check_numbers_k4 (settings') (header') ) KK EE, ?_, ?_⟩
          · obtain ⟨K1606, hK1607, hw⟩ := cW_push hw
            refine ⟨_, rfl, _, _, _, _, _, rfl, (S1601.bM _ _ h_p_header), T.cl_PictureHeader, T.n_PictureHeader_weight, rfl, _, _, rfl, rfl, _, rfl, ?_⟩
            refine iteD (fun c1608 => ?_) (fun c1608 => ?_)
            · have hw := cW_pos c1608 hw
              refine ⟨_, _, rfl, rfl, rfl, rfl, G1602, _, _, rfl, S1601.sG, cW_call hw (fun v1609 hw => ?_) (fun e he => hE e he _ S1601.b0)⟩
              have hw := cW_ok hw
              have hw := hK1607 _ hw
              exact ⟨_, rfl, (Same.refl _), S1601, hw⟩
            · have hw := cW_neg c1608 hw
              refine ⟨rfl, rfl, G1602, _, _, rfl, S1601.sG, cW_call hw (fun v1610 hw => ?_) (fun e he => hE e he _ S1601.b0)⟩
              have hw := cW_ok hw
              have hw := hK1607 _ hw
              exact ⟨_, rfl, (Same.refl _), S1601, hw⟩
          · intro σ H1611 hw
            obtain ⟨G1613, rfl, eG1614, S1612, hw⟩ := hw
            unfold F__check_numbers_k4 at hw
            refine ⟨fun σ H' => ∃ (G' : Hp), σ = [some (V.ref p_settings), some (V.ref p_header)] ∧ Same G1613 G' ∧ Sep [] H G G' H' [] ∧ cW (F__check_numbers_k5 (settings') (header') ) KK EE, ?_, ?_⟩
            · obtain ⟨K1617, hK1618, hw⟩ := cW_push hw
              refine ⟨_, rfl, _, _, _, _, _, rfl, (S1612.bM _ _ h_p_header), T.cl_PictureHeader, T.n_PictureHeader_weight, rfl, _, _, rfl, rfl, _, rfl, ?_⟩
              refine iteB (fun c1619 => ?_) (fun c1619 => ?_)
              · have hw := cW_pos c1619 hw
                refine ⟨rfl, rfl, G1613, _, _, rfl, S1612.sG, cW_call hw (fun v1620 hw => ?_) (fun e he => hE e he _ S1612.b0)⟩
                have hw := cW_ok hw
                have hw := hK1618 _ hw
                exact ⟨_, rfl, (Same.refl _), S1612, hw⟩
              · have hw := cW_negB c1619 hw
                refine ⟨_, rfl, _, _, _, _, _, rfl, (S1612.bM _ _ h_p_header), T.cl_PictureHeader, T.n_PictureHeader_kind, rfl, rfl, rfl, rfl, G1613, _, _, rfl, S1612.sG, cW_call hw (fun v1621 hw => ?_) (fun e he => hE e he _ S1612.b0)⟩
                have hw := cW_ok hw
                have hw := hK1618 _ hw
                exact ⟨_, rfl, (Same.refl _), S1612, hw⟩
            · intro σ H1622 hw
              obtain ⟨G1624, rfl, eG1625, S1623, hw⟩ := hw
              unfold F__check_numbers_k5 at hw
              refine ⟨fun σ H' => ∃ (G' : Hp), σ = [some (V.ref p_settings), some (V.ref p_header)] ∧ Same G1624 G' ∧ Sep [] H G G' H' [] ∧ cW (F__check_numbers_k6 (settings') (header') ) KK EE, ?_, ?_⟩
              · obtain ⟨K1628, hK1629, hw⟩ := cW_push hw
                refine ⟨_, rfl, _, _, _, _, _, rfl, (S1623.bM _ _ h_p_header), T.cl_PictureHeader, T.n_PictureHeader_layer, rfl, _, _, rfl, rfl, _, rfl, ?_⟩
                refine iteD (fun c1630 => ?_) (fun c1630 => ?_)
                · have hw := cW_pos c1630 hw
                  refine ⟨_, rfl, _, _, _, _, _, rfl, (S1623.bM _ _ h_p_settings), T.cl_Settings, T.n_Settings_layers, rfl, _, _, rfl, rfl, rfl, rfl, G1624, _, _, rfl, S1623.sG, cW_call hw (fun v1631 hw => ?_) (fun e he => hE e he _ S1623.b0)⟩
                  have hw := cW_ok hw
                  have hw := hK1629 _ hw
                  exact ⟨_, rfl, (Same.refl _), S1623, hw⟩
                · have hw := cW_neg c1630 hw
                  refine ⟨rfl, rfl, G1624, _, _, rfl, S1623.sG, cW_call hw (fun v1632 hw => ?_) (fun e he => hE e he _ S1623.b0)⟩
                  have hw := cW_ok hw
                  have hw := hK1629 _ hw
                  exact ⟨_, rfl, (Same.refl _), S1623, hw⟩
              · intro σ H1633 hw
                obtain ⟨G1635, rfl, eG1636, S1634, hw⟩ := hw
                unfold F__check_numbers_k6 at hw
                refine ⟨fun σ H' => ∃ (G' : Hp), σ = [some (V.ref p_settings), some (V.ref p_header)] ∧ Same G1635 G' ∧ Sep [] H G G' H' [] ∧ cW (F__check_numbers_k7 (settings') (header') ) KK EE, ?_, ?_⟩
                · obtain ⟨K1639, hK1640, hw⟩ := cW_push hw
                  refine ⟨_, rfl, _, rfl, _, _, _, _, _, rfl, (S1634.bM _ _ h_p_header), T.cl_PictureHeader, T.n_PictureHeader_edge, rfl, _, _, rfl, rfl, _, rfl, ?_⟩
                  refine iteD (fun c1641 => ?_) (fun c1641 => ?_)
                  · have hw := cW_pos c1641 hw
                    refine ⟨_, _, rfl, rfl, rfl, rfl, G1635, _, _, rfl, S1634.sG, cW_call hw (fun v1642 hw => ?_) (fun e he => hE e he _ S1634.b0)⟩
                    have hw := cW_ok hw
                    have hw := hK1640 _ hw
                    exact ⟨_, rfl, (Same.refl _), S1634, hw⟩
                  · have hw := cW_neg c1641 hw
                    refine ⟨rfl, rfl, G1635, _, _, rfl, S1634.sG, cW_call hw (fun v1643 hw => ?_) (fun e he => hE e he _ S1634.b0)⟩
                    have hw := cW_ok hw
                    have hw := hK1640 _ hw
                    exact ⟨_, rfl, (Same.refl _), S1634, hw⟩
                · intro σ H1644 hw
                  obtain ⟨G1646, rfl, eG1647, S1645, hw⟩ := hw
                  unfold F__check_numbers_k7 at hw
                  refine ⟨_, rfl, _, _, _, _, _, rfl, (S1645.bM _ _ h_p_header), T.cl_PictureHeader, T.n_PictureHeader_edge, rfl, _, _, rfl, rfl, _, rfl, ?_⟩
                  refine iteB (fun c1648 => ?_) (fun c1648 => ?_)
                  · have hw := cW_pos c1648 hw
                    refine ⟨rfl, rfl, G1646, _, _, rfl, S1645.sG, cW_call hw (fun v1649 hw => ?_) (fun e he => hE e he _ S1645.b0)⟩
                    have hw := cW_ok hw
                    exact hK0 _ hw _ S1645.b0
                  · have hw := cW_negB c1648 hw
                    refine ⟨_, rfl, _, _, _, _, _, rfl, (S1645.bM _ _ h_p_settings), T.cl_Settings, T.n_Settings_deblock, rfl, rfl, rfl, G1646, _, _, rfl, S1645.sG, cW_call hw (fun v1650 hw => ?_) (fun e he => hE e he _ S1645.b0)⟩
                    have hw := cW_ok hw
                    exact hK0 _ hw _ S1645.b0

abbrev N__check_slots : List Str := ["settings", "header", "slot", "ascending", "counts"]
theorem sc__check_slots : FnScope N__check_slots ["settings", "header"] (defScope s__check_slots) := ⟨rfl, rfl, rfl, by decide +kernel, rfl, by decide +kernel, by decide +kernel⟩
theorem ok__check_slots (D : DefX K mg "_check_slots" s__check_slots ["settings", "header"] pats__check_slots) (T : Txt w K mg AD) (c__require : CalX P w K mg base 1 "_require" (sp__require K AD) pats__require) : CalX P w K mg base 2 "_check_slots" (sp__check_slots K AD) pats__check_slots := by
  refine D.ok sc__check_slots (fun vs H Q E h => ?_) (fun f cdv A_ outer s H vs Q E hr h => ?_)
  · obtain ⟨G, p_settings, p_settings_fmt, dx_settings, dx_settings_fmt, settings', p_header, l_header_store, l_header_refs, dx_header, header', rfl, _⟩ := h
    rfl
  · obtain ⟨G, p_settings, p_settings_fmt, dx_settings, dx_settings_fmt, settings', p_header, l_header_store, l_header_refs, dx_header, header', rfl, sG, h_p_settings, h_p_settings_fmt, h_p_header, h_l_header_store, h_l_header_refs, hw⟩ := h
    refine ⟨_, (pss_cons (ps_for (passes_of rfl) rfl (pi_listK (K := K) (pe_op op_cat (fldK (K := K) (pv 1)) (fldK (K := K) (pv 1)))) (pg_name (i := 2) sc__check_slots.nd rfl (Or.inl rfl)) (pss_one (ps_expr (vx_callX c__require pat__require_0 (.head _) hr (by decide) (takes_of rfl rfl rfl rfl) rfl (pa_cons (pe_chain op_le op_lt pe_int (pv 2) (fldK (K := K) (pv 0))) (pa_cons pe_str pa_nil)) pk_nil))))
      (pss_cons (ps_set (i := 3) sc__check_slots.nd rfl (Or.inl rfl) (pe_callB (cr_sortSet (w := w) rfl) (by rfl) T.b_sorted (by decide +kernel) (pa_cons (pe_callTy (cr_setI (K := K) (w := w) rfl) (by rfl) T.b_set (by decide +kernel) (pa_cons (fldK (K := K) (pv 1)) pa_nil)) pa_nil)))
      (pss_cons (ps_expr (vx_callX c__require pat__require_0 (.head _) hr (by decide) (takes_of rfl rfl rfl rfl) rfl (pa_cons (pe_cmpR (op_eqT (encOk_L encOk_int) hr.units) (fldK (K := K) (pv 1)) (pv 3) (nomark _)) (pa_cons pe_str pa_nil)) pk_nil))
      (pss_cons (ps_set (i := 4) sc__check_slots.nd rfl (Or.inl rfl) (pe_ix (ix_DA (w := w) (K := K)) (C8.pe_gc (v := V.ref AD.t_REF_COUNTS) rfl T.g_REF_COUNTS) (fldK (K := K) (pv 1)) (fun _ _ => rfl)))
      (pss_one (ps_expr (vx_callX c__require pat__require_0 (.head _) hr (by decide) (takes_of rfl rfl rfl rfl) rfl (pa_cons (pe_cmpR (op_inI (K := K)) (pe_callB (call_lenLiK (K := K)) (by rfl) T.b_len (by decide +kernel) (pa_cons (fldK (K := K) (pv 1)) pa_nil)) (pv 4) (by with_unfolding_all rfl)) (pa_cons pe_str pa_nil)) pk_nil))))))), ?_⟩
    obtain ⟨KK, EE, hK0, hE, hw⟩ := cW_gen hw
    have S0 := Sep.startG sG
    unfold F__check_slots at hw
    obtain ⟨g1651, hw⟩ := cW_grd hw
    refine ⟨_, rfl, _, _, _, _, _, rfl, (S0.bM _ _ h_p_header), T.cl_PictureHeader, T.n_PictureHeader_store, rfl, _, rfl, _, _, _, _, _, rfl, (S0.bM _ _ h_p_header), T.cl_PictureHeader, T.n_PictureHeader_refs, rfl, _, _, _, _, rfl, rfl, (S0.bM _ _ h_l_header_store), (S0.bM _ _ h_l_header_refs), (cat_lenM g1651), fun p1652 n1653 => ?_⟩
    generalize g1654 : upd H p1652 _ = H1655
    obtain ⟨e1656, h1657⟩ := gen_new n1653 g1654
    have h1658 : H1655 p1652 = some (.lst (((header'.store) ++ (header'.refs) : (List Int)).map V.int)) := cat_map h1657
    have fr1659 := S0.free n1653
    have S1660 := S0.new n1653 e1656 h1658 fr1659
    obtain ⟨K1663, hK1664, hw⟩ := cW_push hw
    refine ⟨_, rfl, ⟨_, (SqL.of h1658)⟩, for_list (K := K) (a := p1652) (xs := ((header'.store) ++ (header'.refs) : (List Int)).map V.int) (fun i σ H' => ∃ (u1665 : Option V) (G' : Hp), σ = [some (V.ref p_settings), some (V.ref p_header), u1665, none, none] ∧ Same G G' ∧ Sep [] H G G' H' [p1652] ∧ H' p1652 = some (.lst (((header'.store) ++ (header'.refs) : (List Int)).map V.int)) ∧ cW (forS (List.drop i ((header'.store) ++ (header'.refs))) () (fun s x => F__check_slots_b1 (settings')  x)) K1663 EE) ?_ ?_ ?_ ?_⟩
    · exact ⟨_, _, rfl, (Same.refl _), S1660, h1658, hw⟩
    · intro i σ H1666 _ hw
      obtain ⟨u1665, G1669, rfl, eG1670, S1667, h1668, hw⟩ := hw
      exact (SqL.of h1668)
    · intro i x σ H1671 hj hw
      obtain ⟨u1665, G1674, rfl, eG1675, S1672, h1673, hw⟩ := hw
      obtain ⟨x1676, hx, rfl⟩ := map_get hj
      have hw := cW_forS hx hw
      have hw : cW (F__check_slots_b1 (settings')  (x1676)) _ EE := hw
      unfold F__check_slots_b1 at hw
      obtain ⟨K1677, hK1678, hw⟩ := cW_name hw
      refine vv_chain (ta := (tC (V.int 0))) (tb := (tVar 2)) (tc := (tFld K (tVar 0) "slots")) (r := (rI0 fun i j => V.bl (decide (i ≤ j)))) (r' := (rI0 fun i j => V.bl (decide (i < j)))) (x := V.int (0)) (y := V.int (x1676)) (z := V.int (settings'.slots)) (a := decide (0 ≤ x1676)) (b := decide (x1676 < settings'.slots)) ?hx1680 ?hy1681 ?hz1682 (fun Q q => ⟨_, _, rfl, rfl, q⟩) (fun Q q => ⟨_, _, rfl, rfl, q⟩) _ ?_
      case hx1680 => exact val_c
      case hy1681 => exact (val_var rfl)
      case hz1682 => exact (val_fld (val_var rfl) (S1672.bM _ _ h_p_settings) T.cl_Settings T.n_Settings_slots rfl)
      refine ⟨rfl, rfl, G1674, _, _, rfl, S1672.sG, cW_call hw (fun v1683 hw => ?_) (fun e he => hE e he _ S1672.b0)⟩
      have hw := cW_ok hw
      have hw := hK1678 _ hw
      exact ⟨_, _, rfl, eG1675, S1672, h1673, hw⟩
    · intro σ H1684 hw
      obtain ⟨u1665, G1687, rfl, eG1688, S1685, h1686, hw⟩ := hw
      have hw := hK1664 _ (cW_forS0 (by rw [List.length_map]) hw)
      have hw : cW (F__check_slots_r1 (header') ) _ EE := hw
      unfold F__check_slots_r1 at hw
      obtain ⟨g1689, hw⟩ := cW_grd hw
      refine ⟨_, rfl, _, _, _, _, _, rfl, (S1685.bM _ _ h_p_header), T.cl_PictureHeader, T.n_PictureHeader_store, rfl, _, _, rfl, (SqL.of (S1685.bM _ _ h_l_header_store)), g1689, fun p1690 n1691 n1692 n1693 => ⟨_, _, n1691, rfl, upd_same, Nat.le_trans n1692 g1689, ?_⟩⟩
      refine fun ns1694 p1695 pw1696 mm1697 n1698 => ?_
      generalize g1699 : upd (upd H1684 p1690 _) p1695 _ = H1700
      obtain ⟨e1701, h1702, n1703⟩ := gen_new2 n1693 n1698 g1699
      obtain rfl := sortSet_of pw1696 mm1697
      have h1704 : H1700 p1695 = some (.lst (((sortSet (header'.store)) : (List Int)).map V.int)) := h1702
      have fr1705 := S1685.free n1703
      have S1706 := S1685.new n1703 e1701 h1704 fr1705
      refine ⟨_, rfl, _, _, _, _, _, rfl, (S1706.bM _ _ h_p_header), T.cl_PictureHeader, T.n_PictureHeader_store, rfl, _, rfl, _, _, (rp_mk_ints (S1706.bM _ _ h_l_header_store)), (rp_mk_ints h1704), rfl, rfl, G1687, _, _, rfl, S1706.sG, cW_call hw (fun v1707 hw => ?_) (fun e he => hE e he _ S1706.b0)⟩
      obtain ⟨g1708, hw⟩ := cW_grd hw
      refine ⟨_, rfl, _, _, _, _, _, rfl, (S1706.bM _ _ h_p_header), T.cl_PictureHeader, T.n_PictureHeader_kind, rfl, _, _, ([("I", AD.t_REF_COUNTS_0), ("P", AD.t_REF_COUNTS_1), ("B", AD.t_REF_COUNTS_2)] : List (Str × Addr)), _, rfl, rfl, T.kd_REF_COUNTS, (lookG_at (T.th_REF_COUNTS _ g1708)), _, rfl, _, _, _, _, _, rfl, (S1706.bM _ _ h_p_header), T.cl_PictureHeader, T.n_PictureHeader_refs, rfl, _, _, rfl, (SqL.of (S1706.bM _ _ h_l_header_refs)), _, rfl, _, _, ((dictG ([("I", [0]), ("P", [1, 2]), ("B", [2])] : List (Str × List Int)) (header'.kind)) : List Int), rfl, rfl, (.inr ((T.tt_REF_COUNTS _ g1708) _)), rfl, rfl, G1687, _, _, rfl, S1706.sG, cW_call hw (fun v1709 hw => ?_) (fun e he => hE e he _ S1706.b0)⟩
      have hw := cW_ok hw
      exact hK0 _ hw _ S1706.b0

abbrev N_PictureHeader___init__ : List Str := ["self", "settings", "number", "kind", "level", "store", "refs", "weight", "layer", "shown", "edge"]
theorem sc_PictureHeader___init__ : FnScope N_PictureHeader___init__ ["self", "settings", "number", "kind", "level", "store", "refs", "weight", "layer", "shown", "edge"] (defScope s_PictureHeader___init__) := ⟨rfl, rfl, rfl, by decide +kernel, rfl, by decide +kernel, by decide +kernel⟩
theorem ok_PictureHeader___init__ (D : InitX K mg AD.c_PictureHeader "PictureHeader" "PictureHeader.__init__" s_PictureHeader___init__ ["self", "settings", "number", "kind", "level", "store", "refs", "weight", "layer", "shown", "edge"] (pats_PictureHeader___init__ AD)) (T : Txt w K mg AD) (c__check_numbers : CalX P w K mg base 2 "_check_numbers" (sp__check_numbers K AD) pats__check_numbers) (c__check_slots : CalX P w K mg base 2 "_check_slots" (sp__check_slots K AD) pats__check_slots) : MakX P w K mg base 3 "PictureHeader" AD.c_PictureHeader (sp_PictureHeader___init__ K AD) (pats_PictureHeader___init__ AD) := by
  refine D.ok sc_PictureHeader___init__ (fun vs H Q E h => ?_) (fun f cdv A_ outer s H vs Q E hr h => ?_)
  · obtain ⟨G, p_self, dx_self, p_settings, p_settings_fmt, dx_settings, dx_settings_fmt, settings', number', kind', level', v_store, store', v_refs, refs', weight', layer', shown', edge', rfl, _⟩ := h
    rfl
  · obtain ⟨G, p_self, dx_self, p_settings, p_settings_fmt, dx_settings, dx_settings_fmt, settings', number', kind', level', v_store, store', v_refs, refs', weight', layer', shown', edge', rfl, sG, gM, h_self, h_p_settings, h_p_settings_fmt, r_store, r_refs, hw⟩ := h
    refine ⟨_, (pss_cons (ps_fld (pv 0) (pv 2) rfl)
      (pss_cons (ps_fld (pv 0) (pv 3) rfl)
      (pss_cons (ps_fld (pv 0) (pv 4) rfl)
      (pss_cons (ps_fld (pv 0) (pe_callTy (call_listSI (K := K)) (by rfl) T.b_list (by decide +kernel) (pa_cons (pv 5) pa_nil)) rfl)
      (pss_cons (ps_fld (pv 0) (pe_callTy (call_listSI (K := K)) (by rfl) T.b_list (by decide +kernel) (pa_cons (pv 6) pa_nil)) rfl)
      (pss_cons (ps_fld (pv 0) (pv 7) rfl)
      (pss_cons (ps_fld (pv 0) (pv 8) rfl)
      (pss_cons (ps_fld (pv 0) (pv 9) rfl)
      (pss_cons (ps_fld (pv 0) (pv 10) rfl)
      (pss_cons (ps_expr (vx_callX c__check_numbers pat__check_numbers_0 (.head _) hr (by decide) (takes_of rfl rfl rfl rfl) rfl (pa_cons (pv 1) (pa_cons (pv 0) pa_nil)) pk_nil))
      (pss_one (ps_expr (vx_callX c__check_slots pat__check_slots_0 (.head _) hr (by decide) (takes_of rfl rfl rfl rfl) rfl (pa_cons (pv 1) (pa_cons (pv 0) pa_nil)) pk_nil))))))))))))), ?_⟩
    obtain ⟨KK, EE, hK0, hE, hw⟩ := cW_gen hw
    have S0 := Sep.startM (M := [p_self]) sG (all_cons (some_ne h_self) all_nil) gM
    unfold F_PictureHeader___init__ at hw
    refine ⟨_, rfl, _, rfl, _, _, _, _, rfl, h_self, T.cl_PictureHeader, T.n_PictureHeader_number, (by show 0 < 1000; decide), ?_⟩
    generalize g1710 : upd H p_self _ = H1711
    obtain ⟨x1712, h1713⟩ := gen_mut g1710
    have h1714 : H1711 p_self = some (.ins AD.c_PictureHeader dx_self [("number", V.int (number'))]) := h1713
    have S1715 := S0.mut1 x1712 (.head _) h1714
    refine ⟨_, rfl, _, rfl, _, _, _, _, rfl, h1714, T.cl_PictureHeader, T.n_PictureHeader_kind, (by show 1 < 1000; decide), ?_⟩
    generalize g1716 : upd H1711 p_self _ = H1717
    obtain ⟨x1718, h1719⟩ := gen_mut g1716
    have h1720 : H1717 p_self = some (.ins AD.c_PictureHeader dx_self [("number", V.int (number')), ("kind", V.str (kind'))]) := h1719
    have S1721 := S1715.mut1 x1718 (.head _) h1720
    refine ⟨_, rfl, _, rfl, _, _, _, _, rfl, h1720, T.cl_PictureHeader, T.n_PictureHeader_level, (by show 2 < 1000; decide), ?_⟩
    generalize g1722 : upd H1717 p_self _ = H1723
    obtain ⟨x1724, h1725⟩ := gen_mut g1722
    have h1726 : H1723 p_self = some (.ins AD.c_PictureHeader dx_self [("number", V.int (number')), ("kind", V.str (kind')), ("level", V.int (level'))]) := h1725
    have S1727 := S1721.mut1 x1724 (.head _) h1726
    refine ⟨_, rfl, _, _, rfl, (SeqI.mono S1727.bM r_store), fun p1728 n1729 => ?_⟩
    generalize g1730 : upd H1723 p1728 _ = H1731
    obtain ⟨e1732, h1733⟩ := gen_new n1729 g1730
    have h1734 : H1731 p1728 = some (.lst ((store' : (List Int)).map V.int)) := h1733
    have fr1735 := S1727.free n1729
    have S1736 := S1727.new n1729 e1732 h1734 fr1735
    have h1737 := (e1732 _ _ h1726)
    refine ⟨_, rfl, _, _, _, _, rfl, h1737, T.cl_PictureHeader, T.n_PictureHeader_store, (by show 3 < 1000; decide), ?_⟩
    generalize g1738 : upd H1731 p_self _ = H1739
    obtain ⟨x1740, h1741⟩ := gen_mut g1738
    have h1742 : H1739 p_self = some (.ins AD.c_PictureHeader dx_self [("number", V.int (number')), ("kind", V.str (kind')), ("level", V.int (level')), ("store", V.ref p1728)]) := h1741
    have S1743 := S1736.mut1 x1740 (.tail _ (.head _)) h1742
    refine ⟨_, rfl, _, _, rfl, (SeqI.mono S1743.bM r_refs), fun p1744 n1745 => ?_⟩
    generalize g1746 : upd H1739 p1744 _ = H1747
    obtain ⟨e1748, h1749⟩ := gen_new n1745 g1746
    have h1750 : H1747 p1744 = some (.lst ((refs' : (List Int)).map V.int)) := h1749
    have fr1751 := S1743.free n1745
    have S1752 := S1743.new n1745 e1748 h1750 fr1751
    have h1753 := (e1748 _ _ h1742)
    refine ⟨_, rfl, _, _, _, _, rfl, h1753, T.cl_PictureHeader, T.n_PictureHeader_refs, (by show 4 < 1000; decide), ?_⟩
    generalize g1754 : upd H1747 p_self _ = H1755
    obtain ⟨x1756, h1757⟩ := gen_mut g1754
    have h1758 : H1755 p_self = some (.ins AD.c_PictureHeader dx_self [("number", V.int (number')), ("kind", V.str (kind')), ("level", V.int (level')), ("store", V.ref p1728), ("refs", V.ref p1744)]) := h1757
    have S1759 := S1752.mut1 x1756 (.tail _ (.tail _ (.head _))) h1758
    refine ⟨_, rfl, _, rfl, _, _, _, _, rfl, h1758, T.cl_PictureHeader, T.n_PictureHeader_weight, (by show 5 < 1000; decide), ?_⟩
    generalize g1760 : upd H1755 p_self _ = H1761
    obtain ⟨x1762, h1763⟩ := gen_mut g1760
    have h1764 : H1761 p_self = some (.ins AD.c_PictureHeader dx_self [("number", V.int (number')), ("kind", V.str (kind')), ("level", V.int (level')), ("store", V.ref p1728), ("refs", V.ref p1744), ("weight", V.int (weight'))]) := h1763
    have S1765 := S1759.mut1 x1762 (.tail _ (.tail _ (.head _))) h1764
    refine ⟨_, rfl, _, rfl, _, _, _, _, rfl, h1764, T.cl_PictureHeader, T.n_PictureHeader_layer, (by show 6 < 1000; decide), ?_⟩
    generalize g1766 : upd H1761 p_self _ = H1767
    obtain ⟨x1768, h1769⟩ := gen_mut g1766
    have h1770 : H1767 p_self = some (.ins AD.c_PictureHeader dx_self [("number", V.int (number')), ("kind", V.str (kind')), ("level", V.int (level')), ("store", V.ref p1728), ("refs", V.ref p1744), ("weight", V.int (weight')), ("layer", V.int (layer'))]) := h1769
    have S1771 := S1765.mut1 x1768 (.tail _ (.tail _ (.head _))) h1770
    refine ⟨_, rfl, _, rfl, _, _, _, _, rfl, h1770, T.cl_PictureHeader, T.n_PictureHeader_shown, (by show 7 < 1000; decide), ?_⟩
    generalize g1772 : upd H1767 p_self _ = H1773
    obtain ⟨x1774, h1775⟩ := gen_mut g1772
    have h1776 : H1773 p_self = some (.ins AD.c_PictureHeader dx_self [("number", V.int (number')), ("kind", V.str (kind')), ("level", V.int (level')), ("store", V.ref p1728), ("refs", V.ref p1744), ("weight", V.int (weight')), ("layer", V.int (layer')), ("shown", V.bl (shown'))]) := h1775
    have S1777 := S1771.mut1 x1774 (.tail _ (.tail _ (.head _))) h1776
    refine ⟨_, rfl, _, rfl, _, _, _, _, rfl, h1776, T.cl_PictureHeader, T.n_PictureHeader_edge, (by show 8 < 1000; decide), ?_⟩
    generalize g1778 : upd H1773 p_self _ = H1779
    obtain ⟨x1780, h1781⟩ := gen_mut g1778
    have h1782 : H1779 p_self = some (.ins AD.c_PictureHeader dx_self [("number", V.int (number')), ("kind", V.str (kind')), ("level", V.int (level')), ("store", V.ref p1728), ("refs", V.ref p1744), ("weight", V.int (weight')), ("layer", V.int (layer')), ("shown", V.bl (shown')), ("edge", V.int (edge'))]) := h1781
    have S1783 := S1777.mut1 x1780 (.tail _ (.tail _ (.head _))) h1782
    have h1784 := (x1780 _ _ (x1774 _ _ (x1768 _ _ (x1762 _ _ (x1756 _ _ (e1748 _ _ (x1740 _ _ h1734 (ne_of_none h1726 n1729).symm)) (ne_of_none h1726 n1729).symm) (ne_of_none h1726 n1729).symm) (ne_of_none h1726 n1729).symm) (ne_of_none h1726 n1729).symm) (ne_of_none h1726 n1729).symm)
    have h1785 := (x1780 _ _ (x1774 _ _ (x1768 _ _ (x1762 _ _ (x1756 _ _ h1750 (ne_of_none h1742 n1745).symm) (ne_of_none h1742 n1745).symm) (ne_of_none h1742 n1745).symm) (ne_of_none h1742 n1745).symm) (ne_of_none h1742 n1745).symm)
    refine ⟨_, rfl, _, rfl, rfl, rfl, G, _, _, _, _, settings', _, _, _, _, (⟨number', kind', level', store', refs', weight', layer', shown', edge'⟩ : St_PictureHeader), rfl, S1783.sG, (hide_nil (S1783.bM _ _ h_p_settings)), (hide_nil (S1783.bM _ _ h_p_settings_fmt)), (hide_nil h1782), (hide_nil h1784), (hide_nil h1785), cW_call hw (fun v1786 hw H1787 e1788 => ?_) (fun e he H2 e2 => hE e he H2 (fun b o h n => e2 _ _ ((sameX_of S1783.base) b o h n)))⟩
    have S1789 := S1783.same e1788
    have h1790 := (e1788 _ _ h1782)
    have h1791 := (e1788 _ _ h1784)
    have h1792 := (e1788 _ _ h1785)
    refine ⟨_, rfl, _, rfl, rfl, rfl, G, _, _, _, _, settings', _, _, _, _, (⟨number', kind', level', store', refs', weight', layer', shown', edge'⟩ : St_PictureHeader), rfl, S1789.sG, (hide_nil (S1789.bM _ _ h_p_settings)), (hide_nil (S1789.bM _ _ h_p_settings_fmt)), (hide_nil h1790), (hide_nil h1791), (hide_nil h1792), cW_call hw (fun v1793 hw H1794 e1795 => ?_) (fun e he H2 e2 => hE e he H2 (fun b o h n => e2 _ _ ((sameX_of S1789.base) b o h n)))⟩
    have S1796 := S1789.same e1795
    have h1797 := (e1795 _ _ h1790)
    have h1798 := (e1795 _ _ h1791)
    have h1799 := (e1795 _ _ h1792)
    have hw := cW_ok hw
    exact hK0 _ hw _ _ _ (sameX_of S1796.base) fr1735 fr1751 (ne_of_none (x1740 _ _ h1734 (ne_of_none h1726 n1729).symm) n1745) h1797 h1798 h1799

abbrev N__law_header : List Str := ["settings", "p", "kind"]
theorem sc__law_header : FnScope N__law_header ["settings", "p"] (defScope s__law_header) := ⟨rfl, rfl, rfl, by decide +kernel, rfl, by decide +kernel, by decide +kernel⟩
theorem ok__law_header (D : DefX K mg "_law_header" s__law_header ["settings", "p"] pats__law_header) (T : Txt w K mg AD) (c_PictureHeader___init__ : MakX P w K mg base 3 "PictureHeader" AD.c_PictureHeader (sp_PictureHeader___init__ K AD) (pats_PictureHeader___init__ AD)) : CalX P w K mg base 5 "_law_header" (sp__law_header K AD) pats__law_header := by
  refine D.ok sc__law_header (fun vs H Q E h => ?_) (fun f cdv A_ outer s H vs Q E hr h => ?_)
  · obtain ⟨G, p_settings, p_settings_fmt, dx_settings, dx_settings_fmt, settings', v_p, p', rfl, _⟩ := h
    rfl
  · obtain ⟨G, p_settings, p_settings_fmt, dx_settings, dx_settings_fmt, settings', v_p, p', rfl, sG, h_p_settings, h_p_settings_fmt, r_p, hw⟩ := h
    refine ⟨_, (pss_cons (ps_set (i := 2) sc__law_header.nd rfl (Or.inl rfl) (pe_ix (ix_listK (K := K)) (pe_lst (pa_cons pe_str (pa_cons pe_str (pa_cons pe_str pa_nil)))) (pe_ix (ix_listK (K := K)) (pv 1) pe_int (fun _ _ => rfl)) (fun _ _ => rfl)))
      (pss_one (ps_ret (vx_makeX c_PictureHeader___init__ (pat_PictureHeader___init___0 AD) (.head _) hr (by decide) (takes_of rfl rfl rfl rfl) rfl (pa_cons (pv 0) pa_nil) (pk_cons (pe_ix (ix_listK (K := K)) (pv 1) pe_int (fun _ _ => rfl)) (pk_cons (pv 2) (pk_cons (pe_ix (ix_listK (K := K)) (pv 1) pe_int (fun _ _ => rfl)) (pk_cons (pe_callTy (call_listLK (K := K)) (by rfl) T.b_list (by decide +kernel) (pa_cons (pe_ix (ix_listK (K := K)) (pv 1) pe_int (fun _ _ => rfl)) pa_nil)) (pk_cons (pe_callTy (call_tupLK (K := K)) (by rfl) T.b_tuple (by decide +kernel) (pa_cons (pe_ix (ix_listK (K := K)) (pv 1) pe_int (fun _ _ => rfl)) pa_nil)) (pk_cons (pe_ix (ix_listK (K := K)) (pv 1) pe_int (fun _ _ => rfl)) (pk_cons (pe_ix (ix_listK (K := K)) (pv 1) pe_int (fun _ _ => rfl)) (pk_cons (pe_cmp (pc_eqI (pe_ix (ix_listK (K := K)) (pv 1) pe_int (fun _ _ => rfl)) pe_int)) (pk_cons (pe_ix (ix_listK (K := K)) (pv 1) pe_int (fun _ _ => rfl)) pk_nil))))))))))))), ?_⟩
    obtain ⟨KK, EE, hK0, hE, hw⟩ := cW_gen hw
    have S0 := Sep.startG sG
    unfold F__law_header at hw
    obtain ⟨a1800, vs1801, rfl, h1802, d1803⟩ := rp_list r_p
    refine ⟨(by show 3 ≤ sizeLine; decide), fun p1804 n1805 => ?_⟩
    generalize g1806 : upd H p1804 _ = H1807
    obtain ⟨e1808, h1809⟩ := gen_new n1805 g1806
    have h1810 : H1807 p1804 = some (.lst (([("I" : Str), ("P" : Str), ("B" : Str)] : (List Str)).map V.str)) := h1809
    have fr1811 := S0.free n1805
    have S1812 := S0.new n1805 e1808 h1810 fr1811
    obtain ⟨g1813, hw⟩ := cW_grd hw
    obtain ⟨v1814, a1815, r1816⟩ := RpAll.ixD (k := 1) d1803 g1813
    obtain ⟨g1817, hw⟩ := cW_grd hw
    have r1818 : Rp (hideL [] H) v1814 (PyData.int ((cI).dec ((itD (p') (1))))) := rp_dcast cI g1817 r1816
    obtain rfl := rp_int r1818
    obtain ⟨g1819, hw⟩ := cW_grd hw
    obtain ⟨g1820, hw⟩ := cW_grd hw
    obtain ⟨v1821, a1822, r1823⟩ := RpAll.ixD (k := 0) d1803 g1820
    obtain ⟨g1824, hw⟩ := cW_grd hw
    have r1825 : Rp (hideL [] H) v1821 (PyData.int ((cI).dec ((itD (p') (0))))) := rp_dcast cI g1824 r1823
    obtain rfl := rp_int r1825
    obtain ⟨g1826, hw⟩ := cW_grd hw
    obtain ⟨v1827, a1828, r1829⟩ := RpAll.ixD (k := 2) d1803 g1826
    obtain ⟨g1830, hw⟩ := cW_grd hw
    have r1831 : Rp (hideL [] H) v1827 (PyData.int ((cI).dec ((itD (p') (2))))) := rp_dcast cI g1830 r1829
    obtain rfl := rp_int r1831
    obtain ⟨g1832, hw⟩ := cW_grd hw
    obtain ⟨v1833, a1834, r1835⟩ := RpAll.ixD (k := 3) d1803 g1832
    obtain ⟨g1836, hw⟩ := cW_grd hw
    have r1837 : Rp (hideL [] H) v1833 ((encL PyData.int) (((cL cI)).dec ((itD (p') (3))))) := rp_dcast (cL cI) g1836 r1835
    obtain ⟨a1838, rfl, h1839⟩ := rp_ints r1837
    refine ⟨_, rfl, _, _, _, _, rfl, rfl, (SqL.of (S1812.bM _ _ h1802)), a1815, _, _, _, _, rfl, rfl, (SqL.of h1810), (atI_map g1819), _, rfl, _, rfl, _, _, _, _, rfl, rfl, (SqL.of (S1812.bM _ _ h1802)), a1822, _, rfl, _, rfl, _, _, _, _, rfl, rfl, (SqL.of (S1812.bM _ _ h1802)), a1828, _, rfl, _, _, _, _, rfl, rfl, (SqL.of (S1812.bM _ _ h1802)), a1834, _, _, rfl, (SqL.of (S1812.bM _ _ h1839)), fun p1840 n1841 => ?_⟩
    generalize g1842 : upd H1807 p1840 _ = H1843
    obtain ⟨e1844, h1845⟩ := gen_new n1841 g1842
    have h1846 : H1843 p1840 = some (.lst (((((cL cI)).dec ((itD (p') (3)))) : (List Int)).map V.int)) := h1845
    have fr1847 := S1812.free n1841
    have S1848 := S1812.new n1841 e1844 h1846 fr1847
    obtain ⟨g1849, hw⟩ := cW_grd hw
    obtain ⟨v1850, a1851, r1852⟩ := RpAll.ixD (k := 4) d1803 g1849
    obtain ⟨g1853, hw⟩ := cW_grd hw
    have r1854 : Rp (hideL [] H) v1850 ((encL PyData.int) (((cL cI)).dec ((itD (p') (4))))) := rp_dcast (cL cI) g1853 r1852
    obtain ⟨a1855, rfl, h1856⟩ := rp_ints r1854
    refine ⟨_, rfl, _, _, _, _, rfl, rfl, (SqL.of (S1848.bM _ _ h1802)), a1851, _, _, rfl, (SqL.of (S1848.bM _ _ h1856)), fun p1857 n1858 => ?_⟩
    generalize g1859 : upd H1843 p1857 _ = H1860
    obtain ⟨e1861, h1862⟩ := gen_new n1858 g1859
    have fr1863 := S1848.free n1858
    obtain ⟨G1865, eG1866, hg1867, S1864⟩ := S1848.grow n1858 e1861 h1862 fr1863
    obtain ⟨g1868, hw⟩ := cW_grd hw
    obtain ⟨v1869, a1870, r1871⟩ := RpAll.ixD (k := 5) d1803 g1868
    obtain ⟨g1872, hw⟩ := cW_grd hw
    have r1873 : Rp (hideL [] H) v1869 (PyData.int ((cI).dec ((itD (p') (5))))) := rp_dcast cI g1872 r1871
    obtain rfl := rp_int r1873
    obtain ⟨g1874, hw⟩ := cW_grd hw
    obtain ⟨v1875, a1876, r1877⟩ := RpAll.ixD (k := 6) d1803 g1874
    obtain ⟨g1878, hw⟩ := cW_grd hw
    have r1879 : Rp (hideL [] H) v1875 (PyData.int ((cI).dec ((itD (p') (6))))) := rp_dcast cI g1878 r1877
    obtain rfl := rp_int r1879
    obtain ⟨g1880, hw⟩ := cW_grd hw
    obtain ⟨v1881, a1882, r1883⟩ := RpAll.ixD (k := 7) d1803 g1880
    obtain ⟨g1884, hw⟩ := cW_grd hw
    have r1885 : Rp (hideL [] H) v1881 (PyData.int ((cI).dec ((itD (p') (7))))) := rp_dcast cI g1884 r1883
    obtain rfl := rp_int r1885
    obtain ⟨g1886, hw⟩ := cW_grd hw
    obtain ⟨v1887, a1888, r1889⟩ := RpAll.ixD (k := 8) d1803 g1886
    obtain ⟨g1890, hw⟩ := cW_grd hw
    have r1891 : Rp (hideL [] H) v1887 (PyData.int ((cI).dec ((itD (p') (8))))) := rp_dcast cI g1890 r1889
    obtain rfl := rp_int r1891
    refine ⟨_, rfl, _, _, _, _, rfl, rfl, (SqL.of (S1864.bM _ _ h1802)), a1870, _, rfl, _, _, _, _, rfl, rfl, (SqL.of (S1864.bM _ _ h1802)), a1876, _, rfl, _, _, _, _, rfl, rfl, (SqL.of (S1864.bM _ _ h1802)), a1882, _, _, rfl, rfl, _, rfl, _, _, _, _, rfl, rfl, (SqL.of (S1864.bM _ _ h1802)), a1888, rfl, rfl, fun x1892 dx1893 n1894 n1895 n1896 => ?_⟩
    generalize g1897 : upd (upd H1860 dx1893 _) x1892 _ = H1898
    obtain ⟨e1899, h1900⟩ := gen_obj n1894 n1895 n1896 g1897
    have fr1901 := S1864.free n1894
    have S1902 := S1864.new n1894 e1899 h1900 fr1901
    have h1903 := (e1899 _ _ (e1861 _ _ h1846))
    refine ⟨G1865, _, _, _, _, _, _, settings', _, _, _, _, _, _, _, _, _, _, _, rfl, S1902.sG, (S1902.gno (all_cons (.head _) all_nil)), h1900, ((hideL_out (ni1 (b_ne h_p_settings S1902 (.head _)))).trans (S1902.bM _ _ h_p_settings)), ((hideL_out (ni1 (b_ne h_p_settings_fmt S1902 (.head _)))).trans (S1902.bM _ _ h_p_settings_fmt)), ⟨_, rfl, .inl ((hideL_out (ni1 (ne_of_none (e1861 _ _ h1846) n1894))).trans h1903)⟩, ⟨_, rfl, .inr (.inl ((hideL_out (ni1 (g_ne hg1867 S1902 (.head _)))).trans (S1902.sG _ _ hg1867)))⟩, cW_call hw (fun v1904 hw H1907 l1905 l1906 x1908 n1913 n1914 ne1915 h1909 h1911 h1912 => ⟨rfl, ?_⟩) (fun e he H2 e2 => hE e he H2 (Same.trans S1864.b0 (same_mut e1899 e2 n1894)))⟩
    have fr1916 := S1902.free n1913
    have fr1917 := S1902.free n1914
    have S1910 : Sep _ _ _ _ H1907 [l1905, l1906, x1892, p1840, p1804] := Sep.init S1902 x1908 (.head _) h1909 [l1905, l1906] (all_cons ⟨n1913, some_ne h1911, fr1916⟩ (all_cons ⟨n1914, some_ne h1912, fr1917⟩ all_nil))
    have hw := cW_ok hw
    exact hK0 _ hw _ _ _ _ _ S1910.b0 fr1901 fr1916 fr1917 ne1915 h1909 h1911 h1912

abbrev N_law : List Str := ["script", "n", "settings", "count", "draws", "number", "index", "delta", "header", "code", "kept", "head", "payload", "back", "picture", "twin", "other"]
theorem sc_law : FnScope N_law ["script"] (defScope s_law) := ⟨rfl, rfl, rfl, by decide +kernel, rfl, by decide +kernel, by decide +kernel⟩
theorem ok_law {f : Addr} {fd : FuncData} (F : FunD K "law" "law" (defArgs s_law) (defBody s_law) (defScope s_law) [] [] f fd) (T : Txt w K mg AD) (c__law_numbers : CalX P w K mg base 2 "_law_numbers" (sp__law_numbers K AD) pats__law_numbers) (c__law_cell : CalX P w K mg base 1 "_law_cell" (sp__law_cell K AD) pats__law_cell) (c__law_settings : CalX P w K mg base 4 "_law_settings" (sp__law_settings K AD) pats__law_settings) (c__law_draws : CalX P w K mg base 1 "_law_draws" (sp__law_draws K AD) pats__law_draws) (c__law_between : CalX P w K mg base 1 "_law_between" (sp__law_between K AD) pats__law_between) (c_SliceHeader___init__ : MakX P w K mg base 3 "SliceHeader" AD.c_SliceHeader (sp_SliceHeader___init__ K AD) pats_SliceHeader___init__) (c_Settings_slices : MetX P w K mg base 2 AD.c_Settings "slices" (sp_Settings_slices K AD) pats_Settings_slices) (c__law_packed : CalX P w K mg base 1 "_law_packed" (sp__law_packed K AD) pats__law_packed) (c__law_ue : CalX P w K mg base 2 "_law_ue" (sp__law_ue K AD) pats__law_ue) (c__law_se : CalX P w K mg base 3 "_law_se" (sp__law_se K AD) pats__law_se) (c_write_slice : CalX P w K mg base 4 "write_slice" (sp_write_slice K AD) pats_write_slice) (c_read_slice : CalX P w K mg base 6 "read_slice" (sp_read_slice K AD) pats_read_slice) (c_SliceHeader___eq__ : MetX P w K mg base 1 AD.c_SliceHeader "__eq__" (sp_SliceHeader___eq__ K AD) pats_SliceHeader___eq__) (c__law_long : CalX P w K mg base 5 "_law_long" (sp__law_long K AD) pats__law_long) (c__law_picture : CalX P w K mg base 2 "_law_picture" (sp__law_picture K AD) pats__law_picture) (c_slice_level : CalX P w K mg base 3 "slice_level" (sp_slice_level K AD) pats_slice_level) (c__law_header : CalX P w K mg base 5 "_law_header" (sp__law_header K AD) pats__law_header) : FnG P w K mg base CX0 7 f fd ["script"] (sp_law K AD) := by
  refine FnG.bodyN F sc_law (fun vs H Q E h => ?_) (fun cdv A_ outer s H vs Q E hr h => ?_)
  · obtain ⟨a_script, script, rfl, _⟩ := h
    rfl
  · obtain ⟨a_script, script', rfl, q_script, hw, k⟩ := h
    refine ⟨_, (pss_cons (ps_set (i := 1) sc_law.nd rfl (Or.inl rfl) (vx_callX c__law_numbers pat__law_numbers_0 (.head _) hr (by decide) takes0 rfl (pa_cons (vx_callX c__law_cell pat__law_cell_0 (.head _) hr (by decide) takes0 rfl (pa_cons (pv 0) (pa_cons pe_int pa_nil)) pk_nil) pa_nil) pk_nil))
      (pss_cons (ps_set (i := 2) sc_law.nd rfl (Or.inl rfl) (vx_callX c__law_settings pat__law_settings_0 (.head _) hr (by decide) takes0 rfl (pa_cons (pv 1) pa_nil) pk_nil))
      (pss_cons (ps_set (i := 3) sc_law.nd rfl (Or.inl rfl) (pe_op op_fdivW (pe_op op_sub (pe_op op_add (pe_op op_fdivW (pe_op op_add (pe_ix (ix_listK (K := K)) (pv 1) pe_int (fun _ _ => rfl)) pe_int) pe_int) (pe_ix (ix_listK (K := K)) (pv 1) pe_int (fun _ _ => rfl))) pe_int) (pe_ix (ix_listK (K := K)) (pv 1) pe_int (fun _ _ => rfl))))
      (pss_cons (ps_set (i := 4) sc_law.nd rfl (Or.inl rfl) (vx_callX c__law_draws pat__law_draws_0 (.head _) hr (by decide) takes0 rfl (pa_cons (vx_callX c__law_cell pat__law_cell_0 (.head _) hr (by decide) takes0 rfl (pa_cons (pv 0) (pa_cons pe_int pa_nil)) pk_nil) (pa_cons (pe_lst (pa_cons pe_int (pa_cons pe_int (pa_cons pe_int (pa_cons pe_int (pa_cons pe_int (pa_cons pe_int (pa_cons pe_int (pa_cons pe_int pa_nil))))))))) pa_nil)) pk_nil))
      (pss_cons (ps_set (i := 5) sc_law.nd rfl (Or.inl rfl) (vx_callX c__law_between pat__law_between_0 (.head _) hr (by decide) takes0 rfl (pa_cons (pe_ix (ix_listK (K := K)) (pv 4) pe_int (fun _ _ => rfl)) (pa_cons (pe_ix (ix_listK (K := K)) (pv 4) pe_int (fun _ _ => rfl)) (pa_cons pe_int (pa_cons pe_int pa_nil)))) pk_nil))
      (pss_cons (ps_set (i := 6) sc_law.nd rfl (Or.inl rfl) (vx_callX c__law_between pat__law_between_0 (.head _) hr (by decide) takes0 rfl (pa_cons (pe_ix (ix_listK (K := K)) (pv 4) pe_int (fun _ _ => rfl)) (pa_cons (pe_ix (ix_listK (K := K)) (pv 4) pe_int (fun _ _ => rfl)) (pa_cons pe_int (pa_cons (pe_op op_sub (pv 3) pe_int) pa_nil)))) pk_nil))
      (pss_cons (ps_set (i := 7) sc_law.nd rfl (Or.inl rfl) (vx_callX c__law_between pat__law_between_0 (.head _) hr (by decide) takes0 rfl (pa_cons (pe_ix (ix_listK (K := K)) (pv 4) pe_int (fun _ _ => rfl)) (pa_cons (pe_ix (ix_listK (K := K)) (pv 4) pe_int (fun _ _ => rfl)) (pa_cons (pe_un un_neg pe_int) (pa_cons pe_int pa_nil)))) pk_nil))
      (pss_cons (ps_set (i := 8) sc_law.nd rfl (Or.inl rfl) (vx_makeX c_SliceHeader___init__ pat_SliceHeader___init___0 (.head _) hr (by decide) takes0 rfl (pa_cons (pv 2) pa_nil) (pk_cons (pv 5) (pk_cons (pv 6) (pk_cons (pv 7) pk_nil)))))
      (pss_cons (ps_if (PW.pt (pw_or (pt_cmpR (op_neT (encOk_L encOk_int) hr.units) (pe_lst (pa_cons (fldK (K := K) (pv 8)) (pa_cons (fldK (K := K) (pv 8)) (pa_cons (fldK (K := K) (pv 8)) pa_nil)))) (pe_lst (pa_cons (pv 5) (pa_cons (pv 6) (pa_cons (pv 7) pa_nil)))) (nomark _)) (pw_or1 (pt_cmp (pc_neI (vx_methX0 c_Settings_slices pat_Settings_slices_0 (.head _) hr (by decide) takes0 (pv 2)) (pv 3)))))) (pss_one (ps_ret pe_bl)) pss_nil)
      (pss_cons (ps_set (i := 9) sc_law.nd rfl (Or.inl rfl) (vx_callX c__law_draws pat__law_draws_0 (.head _) hr (by decide) takes0 rfl (pa_cons (vx_callX c__law_cell pat__law_cell_0 (.head _) hr (by decide) takes0 rfl (pa_cons (pv 0) (pa_cons pe_int pa_nil)) pk_nil) (pa_cons (pe_op op_rep (pe_lst (pa_cons pe_int pa_nil)) (pe_ix (ix_listK (K := K)) (pv 4) pe_int (fun _ _ => rfl))) pa_nil)) pk_nil))
      (C8.pss_cut (ps_if (pt_cmp (pc_eqI (pe_ix (ix_listK (K := K)) (pv 4) pe_int (fun _ _ => rfl)) pe_int)) (pss_one (ps_set (i := 9) sc_law.nd rfl (Or.inl rfl) (pe_op op_rep (pe_lst (pa_cons pe_int pa_nil)) (pe_ix (ix_listK (K := K)) (pv 4) pe_int (fun _ _ => rfl))))) pss_nil)
      (pss_cons (ps_set (i := 10) sc_law.nd rfl (Or.inl rfl) (pe_callTy (call_listLK (K := K)) (by rfl) T.b_list (by decide +kernel) (pa_cons (pv 9) pa_nil)))
      (pss_cons (ps_set (i := 11) sc_law.nd rfl (Or.inl rfl) (vx_callX c__law_packed pat__law_packed_0 (.head _) hr (by decide) takes0 rfl (pa_cons (pe_op op_cat (pe_op op_cat (vx_callX c__law_ue pat__law_ue_0 (.head _) hr (by decide) takes0 rfl (pa_cons (pv 5) pa_nil) pk_nil) (vx_callX c__law_ue pat__law_ue_0 (.head _) hr (by decide) takes0 rfl (pa_cons (pv 6) pa_nil) pk_nil)) (vx_callX c__law_se pat__law_se_0 (.head _) hr (by decide) takes0 rfl (pa_cons (pv 7) pa_nil) pk_nil)) pa_nil) pk_nil))
      (pss_cons (ps_set (i := 12) sc_law.nd rfl (Or.inl rfl) (vx_callX c_write_slice pat_write_slice_0 (.head _) hr (by decide) takes0 rfl (pa_cons (pv 2) (pa_cons (pv 8) (pa_cons (pv 9) pa_nil))) pk_nil))
      (pss_cons (ps_if (PW.pt (pw_or (pt_not (pt_val (pe_callB call_isi (by rfl) T.b_isinstance (by decide +kernel) (pa_cons (pv 12) (pa_cons (pe_bltn (v := V.ty "list") (u := Value.type "list") (by rfl) T.b_list (by decide +kernel) rfl) pa_nil))))) (pw_or (pt_cmpR (op_neT (encOk_L encOk_int) hr.units) (pv 12) (pe_op op_cat (pe_op op_cat (pe_lst (pa_cons (pe_callB (call_lenLiK (K := K)) (by rfl) T.b_len (by decide +kernel) (pa_cons (pv 11) pa_nil)) pa_nil)) (pv 11)) (pv 10)) (nomark _)) (pw_or1 (pt_cmpR (op_neT (encOk_L encOk_int) hr.units) (pv 9) (pv 10) (nomark _)))))) (pss_one (ps_ret pe_bl)) pss_nil)
      (pss_cons (ps_set (i := 13) sc_law.nd rfl (Or.inl rfl) (vx_callX c_read_slice pat_read_slice_0 (.head _) hr (by decide) takes0 rfl (pa_cons (pv 2) (pa_cons (pv 12) pa_nil)) pk_nil))
      (pss_cons (ps_if (PW.pt (pw_or (pt_not (pt_val (pe_callB call_isi (by rfl) T.b_isinstance (by decide +kernel) (pa_cons (pv 13) (pa_cons (pe_bltn (v := V.ty "tuple") (u := Value.type "tuple") (by rfl) T.b_tuple (by decide +kernel) rfl) pa_nil))))) (pw_or (pt_cmp (pc_neI (pe_callB (call_lenTK (K := K)) (by rfl) T.b_len (by decide +kernel) (pa_cons (pv 13) pa_nil)) pe_int)) (pw_or (pt_cmpR op_notTrue (pe_cmpR (op_eqX c_SliceHeader___eq__ pat_SliceHeader___eq___0 (.head _) hr (by decide)) (pe_ix (ix_tupK (K := K)) (pv 13) pe_int (fun _ _ => rfl)) (pv 8) (nomark _)) pe_bl (nomark _)) (pw_or1 (pt_cmpR (op_neT (encOk_L encOk_int) hr.units) (pe_ix (ix_tupK (K := K)) (pv 13) pe_int (fun _ _ => rfl)) (pv 10) (nomark _))))))) (pss_one (ps_ret pe_bl)) pss_nil)
      (pss_cons (ps_if (PW.pt (pw_or (pt_cmpR (op_neT (encOk_L encOk_int) hr.units) (pv 12) (pe_op op_cat (pe_op op_cat (pe_lst (pa_cons (pe_callB (call_lenLiK (K := K)) (by rfl) T.b_len (by decide +kernel) (pa_cons (pv 11) pa_nil)) pa_nil)) (pv 11)) (pv 10)) (nomark _)) (pw_or1 (pt_not (pt_val (pe_callB call_isi (by rfl) T.b_isinstance (by decide +kernel) (pa_cons (pe_ix (ix_tupK (K := K)) (pv 13) pe_int (fun _ _ => rfl)) (pa_cons (pe_bltn (v := V.ty "list") (u := Value.type "list") (by rfl) T.b_list (by decide +kernel) rfl) pa_nil)))))))) (pss_one (ps_ret pe_bl)) pss_nil)
      (pss_cons (ps_expr (pe_bm PySem.F.plainAttrs_list PySem.F.slot_list_append PySem.F.type_list_append mt_append (pe_ix (ix_tupK (K := K)) (pv 13) pe_int (fun _ _ => rfl)) (pa_cons pe_int pa_nil)))
      (pss_cons (ps_if (PW.pt (pw_or (pt_cmpR (op_neT (encOk_L encOk_int) hr.units) (pe_ix (ix_tupK (K := K)) (vx_callX c_read_slice pat_read_slice_0 (.head _) hr (by decide) takes0 rfl (pa_cons (pv 2) (pa_cons (pv 12) pa_nil)) pk_nil) pe_int (fun _ _ => rfl)) (pv 10) (nomark _)) (pw_or1 (pt_cmpR (op_neT (encOk_L encOk_int) hr.units) (vx_callX c_write_slice pat_write_slice_0 (.head _) hr (by decide) takes0 rfl (pa_cons (pv 2) (pa_cons (pe_ix (ix_tupK (K := K)) (pv 13) pe_int (fun _ _ => rfl)) (pa_cons (pv 10) pa_nil))) pk_nil) (pv 12) (nomark _))))) (pss_one (ps_ret pe_bl)) pss_nil)
      (pss_cons (ps_if (pt_not (pt_val (vx_callX c__law_long pat__law_long_0 (.head _) hr (by decide) takes0 rfl (pa_cons (pv 2) (pa_cons (pv 8) (pa_cons (pv 11) (pa_cons (vx_callX c__law_cell pat__law_cell_0 (.head _) hr (by decide) takes0 rfl (pa_cons (pv 0) (pa_cons pe_int pa_nil)) pk_nil) pa_nil)))) pk_nil))) (pss_one (ps_ret pe_bl)) pss_nil)
      (pss_cons (ps_set (i := 14) sc_law.nd rfl (Or.inl rfl) (vx_callX c__law_picture pat__law_picture_0 (.head _) hr (by decide) takes0 rfl (pa_cons (vx_callX c__law_cell pat__law_cell_0 (.head _) hr (by decide) takes0 rfl (pa_cons (pv 0) (pa_cons pe_int pa_nil)) pk_nil) (pa_cons (pv 1) pa_nil)) pk_nil))
      (pss_cons (ps_if (pt_cmp (pc_neI (vx_callX c_slice_level pat_slice_level_0 (.head _) hr (by decide) takes0 rfl (pa_cons (vx_callX c__law_header pat__law_header_0 (.head _) hr (by decide) takes0 rfl (pa_cons (pv 2) (pa_cons (pv 14) pa_nil)) pk_nil) (pa_cons (pv 8) pa_nil)) pk_nil) (pe_callB (call_min2 rfl) (by rfl) T.b_min (by decide +kernel) (pa_cons pe_int (pa_cons (pe_callB (call_max2 rfl) (by rfl) T.b_max (by decide +kernel) (pa_cons pe_int (pa_cons (pe_op op_add (pe_ix (ix_listK (K := K)) (pv 14) pe_int (fun _ _ => rfl)) (pv 7)) pa_nil))) pa_nil))))) (pss_one (ps_ret pe_bl)) pss_nil)
      (pss_cons (ps_set (i := 15) sc_law.nd rfl (Or.inl rfl) (vx_makeX c_SliceHeader___init__ pat_SliceHeader___init___0 (.head _) hr (by decide) takes0 rfl (pa_cons (pv 2) pa_nil) (pk_cons (pe_op op_mod (pe_callTy call_int1 (by rfl) T.b_int (by decide +kernel) (pa_cons (pe_op op_add (pv 5) pe_int) pa_nil)) pe_int) (pk_cons (pv 6) (pk_cons (pv 7) pk_nil)))))
      (pss_cons (ps_if (pt_cmpR op_notFalse (pe_cmpR (op_eqX c_SliceHeader___eq__ pat_SliceHeader___eq___0 (.head _) hr (by decide)) (pv 15) (pv 8) (nomark _)) pe_bl (nomark _)) (pss_one (ps_ret pe_bl)) pss_nil)
      (C8.pss_cut (ps_if (pt_cmp (pc_gt (pv 3) pe_int)) (pss_cons (ps_set (i := 15) sc_law.nd rfl (Or.inl rfl) (vx_makeX c_SliceHeader___init__ pat_SliceHeader___init___0 (.head _) hr (by decide) takes0 rfl (pa_cons (pv 2) pa_nil) (pk_cons (pv 5) (pk_cons (pe_op op_mod (pe_callTy call_int1 (by rfl) T.b_int (by decide +kernel) (pa_cons (pe_op op_add (pv 6) pe_int) pa_nil)) (pv 3)) (pk_cons (pv 7) pk_nil)))))
      (pss_one (ps_if (pt_cmpR op_notFalse (pe_cmpR (op_eqX c_SliceHeader___eq__ pat_SliceHeader___eq___0 (.head _) hr (by decide)) (pv 15) (pv 8) (nomark _)) pe_bl (nomark _)) (pss_one (ps_ret pe_bl)) pss_nil))) pss_nil)
      (pss_cons (ps_set (i := 16) sc_law.nd rfl (Or.inl rfl) (vx_makeX c_SliceHeader___init__ pat_SliceHeader___init___1 (.tail _ (.head _)) hr (by decide) takes0 rfl (pa_cons (pv 2) pa_nil) (pk_cons (pv 5) (pk_cons (pv 6) pk_nil))))
      (pss_one (ps_ret (pe_and (pe_cmp (pc_eqI (fldK (K := K) (pv 16)) pe_int)) (pe_one (pe_cmpR op_eq (pe_cmpR (op_eqX c_SliceHeader___eq__ pat_SliceHeader___eq___0 (.head _) hr (by decide)) (pv 16) (pv 8) (nomark _)) (pe_cmp (pc_eqI (pv 7) pe_int)) (nomark _))))))))))))))))))))))))))))))))), ?_⟩
    obtain ⟨KK, EE, hK0, hE, hw⟩ := cW_gen hw
    have S0 := Sep.start0 H
    unfold F_law at hw
    refine ⟨_, rfl, rfl, rfl, H, _, _, _, rfl, S0.sG, (S0.b0.seq q_script), cW_call hw (fun v1918 hw => ?_) (fun e he => (hE e he).elim)⟩
    refine ⟨rfl, rfl, H, _, rfl, S0.sG, cW_call hw (fun v1919 hw p1922 H1920 n1923 e1921 h1924 => ?_) (fun e he => (hE e he).elim)⟩
    have h1925 : H1920 p1922 = some (.lst ((v1919 : (List Int)).map V.int)) := h1924
    have fr1926 := S0.free n1923
    have S1927 := S0.new n1923 e1921 h1925 fr1926
    refine ⟨_, rfl, rfl, rfl, H, _, _, rfl, S1927.sG, (hide_nil h1925), cW_call hw (fun v1928 hw H1929 p1931 p1932 dx1933 dx1934 e1930 n1935 n1936 ne1939 h1937 h1938 => ?_) (fun e he => (hE e he).elim)⟩
    have fr1940 := S1927.free n1935
    have fr1941 := S1927.free n1936
    have S1942 : Sep _ _ _ _ H1929 [p1931, p1932, p1922] := Sep.news S1927 e1930 [p1931, p1932] (all_cons ⟨n1935, some_ne h1937, fr1940⟩ (all_cons ⟨n1936, some_ne h1938, fr1941⟩ all_nil))
    obtain ⟨g1943, hw⟩ := cW_grd hw
    have h1944 := (e1930 _ _ h1925)
    obtain ⟨g1945, hw⟩ := cW_grd hw
    obtain ⟨g1946, hw⟩ := cW_grd hw
    obtain ⟨g1947, hw⟩ := cW_grd hw
    refine ⟨_, rfl, _, _, _, _, rfl, rfl, (SqL.of h1944), (atI_map g1943), _, _, rfl, rfl, _, _, rfl, rfl, (divW_lit (by decide) (by decide)), _, rfl, _, _, _, _, rfl, rfl, (SqL.of h1944), (atI_map g1945), _, _, rfl, rfl, _, _, rfl, rfl, _, rfl, _, _, _, _, rfl, rfl, (SqL.of h1944), (atI_map g1946), _, _, rfl, rfl, (divW_small g1947.1 g1947.2), ?_⟩
    have hw := cW_bnd hw
    refine ⟨_, rfl, rfl, rfl, H, _, _, _, rfl, S1942.sG, (S1942.b0.seq q_script), cW_call hw (fun v1949 hw => ?_) (fun e he => (hE e he).elim)⟩
    refine ⟨(by show 8 ≤ sizeLine; decide), fun p1950 n1951 => ?_⟩
    generalize g1952 : upd H1929 p1950 _ = H1953
    obtain ⟨e1954, h1955⟩ := gen_new n1951 g1952
    have h1956 : H1953 p1950 = some (.lst (([6, 1000, 6, 32, 6, 63, 41, 3] : (List Int)).map V.int)) := h1955
    have fr1957 := S1942.free n1951
    have S1958 := S1942.new n1951 e1954 h1956 fr1957
    refine ⟨rfl, rfl, H, _, _, _, rfl, S1958.sG, (hide_nil h1956), cW_call hw (fun v1959 hw p1962 H1960 n1963 e1961 h1964 => ?_) (fun e he => (hE e he).elim)⟩
    have h1965 : H1960 p1962 = some (.lst ((v1959 : (List Int)).map V.int)) := h1964
    have fr1966 := S1958.free n1963
    have S1967 := S1958.new n1963 e1961 h1965 fr1966
    obtain ⟨g1968, hw⟩ := cW_grd hw
    obtain ⟨g1969, hw⟩ := cW_grd hw
    refine ⟨_, rfl, _, _, _, _, rfl, rfl, (SqL.of h1965), (atI_map g1968), _, rfl, _, _, _, _, rfl, rfl, (SqL.of h1965), (atI_map g1969), rfl, rfl, H, _, _, _, _, rfl, S1967.sG, cW_call hw (fun v1970 hw => ?_) (fun e he => (hE e he).elim)⟩
    obtain ⟨g1971, hw⟩ := cW_grd hw
    obtain ⟨g1972, hw⟩ := cW_grd hw
    refine ⟨_, rfl, _, _, _, _, rfl, rfl, (SqL.of h1965), (atI_map g1971), _, rfl, _, _, _, _, rfl, rfl, (SqL.of h1965), (atI_map g1972), _, rfl, _, _, rfl, rfl, rfl, rfl, H, _, _, _, _, rfl, S1967.sG, cW_call hw (fun v1973 hw => ?_) (fun e he => (hE e he).elim)⟩
    obtain ⟨g1974, hw⟩ := cW_grd hw
    obtain ⟨g1975, hw⟩ := cW_grd hw
    refine ⟨_, rfl, _, _, _, _, rfl, rfl, (SqL.of h1965), (atI_map g1974), _, rfl, _, _, _, _, rfl, rfl, (SqL.of h1965), (atI_map g1975), _, rfl, rfl, rfl, H, _, _, _, _, rfl, S1967.sG, cW_call hw (fun v1976 hw => ?_) (fun e he => (hE e he).elim)⟩
    refine ⟨_, rfl, _, rfl, _, rfl, _, rfl, rfl, rfl, fun x1977 dx1978 n1979 n1980 n1981 => ?_⟩
    generalize g1982 : upd (upd H1960 dx1978 _) x1977 _ = H1983
    obtain ⟨e1984, h1985⟩ := gen_obj n1979 n1980 n1981 g1982
    have fr1986 := S1967.free n1979
    have S1987 := S1967.new n1979 e1984 h1985 fr1986
    have h1988 := (e1984 _ _ (e1961 _ _ (e1954 _ _ h1937)))
    have h1989 := (e1984 _ _ (e1961 _ _ (e1954 _ _ h1938)))
    refine ⟨H, _, _, _, _, _, _, v1928, _, _, _, rfl, S1987.sG, (S1987.gno (all_cons (.head _) all_nil)), h1985, ((hideL_out (ni1 (ne_of_none (e1961 _ _ (e1954 _ _ h1937)) n1979))).trans h1988), ((hideL_out (ni1 (ne_of_none (e1961 _ _ (e1954 _ _ h1938)) n1979))).trans h1989), cW_call hw (fun v1990 hw H1991 x1992 h1993 => ⟨rfl, ?_⟩) (fun e he => (hE e he).elim)⟩
    have S1994 : Sep _ _ _ _ H1991 [x1977, p1962, p1950, p1931, p1932, p1922] := Sep.init S1987 x1992 (.head _) h1993 [] all_nil
    refine ⟨_, rfl, _, _, _, _, _, rfl, h1993, T.cl_SliceHeader, T.n_SliceHeader_number, rfl, _, rfl, _, _, _, _, _, rfl, h1993, T.cl_SliceHeader, T.n_SliceHeader_index, rfl, _, rfl, _, _, _, _, _, rfl, h1993, T.cl_SliceHeader, T.n_SliceHeader_delta, rfl, (by show 3 ≤ sizeLine; decide), fun p1995 n1996 => ?_⟩
    generalize g1997 : upd H1991 p1995 _ = H1998
    obtain ⟨e1999, h2000⟩ := gen_new n1996 g1997
    have h2001 : H1998 p1995 = some (.lst (([v1990.number, v1990.index, v1990.delta] : (List Int)).map V.int)) := h2000
    have fr2002 := S1994.free n1996
    have S2003 := S1994.new n1996 e1999 h2001 fr2002
    refine ⟨_, rfl, _, rfl, _, rfl, (by show 3 ≤ sizeLine; decide), fun p2004 n2005 => ?_⟩
    generalize g2006 : upd H1998 p2004 _ = H2007
    obtain ⟨e2008, h2009⟩ := gen_new n2005 g2006
    have h2010 : H2007 p2004 = some (.lst (([v1970, v1973, v1976] : (List Int)).map V.int)) := h2009
    have fr2011 := S2003.free n2005
    have S2012 := S2003.new n2005 e2008 h2010 fr2011
    have h2013 := (e2008 _ _ h2001)
    refine ⟨_, _, (rp_mk_ints h2013), (rp_mk_ints h2010), _, rfl, ?_⟩
    refine iteN (fun c2014 => ?_) (fun c2014 => ?_)
    · have hw := cW_neg c2014 hw
      refine iteT ?_
      have hw := cW_ok hw
      exact eq_bl (k _) (hK0 _ hw).symm
    · have hw := cW_pos c2014 hw
      have h2015 := (e2008 _ _ (e1999 _ _ ((SameXs.of x1992) _ _ h1988 (ni1 (ne_of_none (e1961 _ _ (e1954 _ _ h1937)) n1979)))))
      have h2016 := (e2008 _ _ (e1999 _ _ ((SameXs.of x1992) _ _ h1989 (ni1 (ne_of_none (e1961 _ _ (e1954 _ _ h1938)) n1979)))))
      refine ⟨_, rfl, _, _, _, rfl, h2015, rfl, rfl, rfl, H, _, _, _, _, v1928, rfl, S2012.sG, (hide_nil h2015), (hide_nil h2016), cW_call hw (fun v2017 hw H2018 e2019 => ?_) (fun e he => (hE e he).elim)⟩
      have S2020 := S2012.same e2019
      refine ⟨_, rfl, _, _, rfl, rfl, _, rfl, ?_⟩
      refine iteN (fun c2021 => ?_) (fun c2021 => ?_)
      · have hw := cW_neg c2021 hw
        have hw := cW_ok hw
        exact eq_bl (k _) (hK0 _ hw).symm
      · have hw := cW_pos c2021 hw
        refine ⟨_, rfl, rfl, rfl, H, _, _, _, rfl, S2020.sG, (S2020.b0.seq q_script), cW_call hw (fun v2022 hw => ?_) (fun e he => (hE e he).elim)⟩
        refine ⟨(by show 1 ≤ sizeLine; decide), fun p2023 n2024 => ?_⟩
        generalize g2025 : upd H2018 p2023 _ = H2026
        obtain ⟨e2027, h2028⟩ := gen_new n2024 g2025
        have h2029 : H2026 p2023 = some (.lst (([256] : (List Int)).map V.int)) := h2028
        have fr2030 := S2020.free n2024
        have S2031 := S2020.new n2024 e2027 h2029 fr2030
        obtain ⟨g2032, hw⟩ := cW_grd hw
        have h2033 := (e2027 _ _ (e2019 _ _ (e2008 _ _ (e1999 _ _ ((SameXs.of x1992) _ _ (e1984 _ _ h1965) (ni1 (ne_of_none h1965 n1979)))))))
        obtain ⟨g2034, hw⟩ := cW_grd hw
        refine ⟨_, rfl, _, _, _, _, rfl, rfl, (SqL.of h2033), (atI_map g2032), _, _, _, rfl, rfl, h2029, g2034.1, g2034.2.1, (rep_lenM g2034.2.2), fun p2035 n2036 => ?_⟩
        generalize g2037 : upd H2026 p2035 _ = H2038
        obtain ⟨e2039, h2040⟩ := gen_new n2036 g2037
        have h2041 : H2038 p2035 = some (.lst ((repL ([256]) ((itD (v1959) (6))) : (List Int)).map V.int)) := rep_map h2040
        have fr2042 := S2031.free n2036
        have S2043 := S2031.new n2036 e2039 h2041 fr2042
        refine ⟨rfl, rfl, H, _, _, _, rfl, S2043.sG, (hide_nil h2041), cW_call hw (fun v2044 hw p2047 H2045 n2048 e2046 h2049 => ?_) (fun e he => (hE e he).elim)⟩
        have h2050 : H2045 p2047 = some (.lst ((v2044 : (List Int)).map V.int)) := h2049
        have fr2051 := S2043.free n2048
        have S2052 := S2043.new n2048 e2046 h2050 fr2051
        refine ⟨fun σ H' => ∃ (p2063 : Addr) (code_2062 : (List Int)) (G' : Hp), σ = [some (V.ref a_script), some (V.ref p1922), some (V.ref p1931), some (V.int (((((((itD (v1919) (1)) + 7) / 8) + (itD (v1919) (5))) - 1) / (itD (v1919) (5))))), some (V.ref p1962), some (V.int (v1970)), some (V.int (v1973)), some (V.int (v1976)), some (V.ref x1977), some (V.ref p2063), none, none, none, none, none, none, none] ∧ Same H G' ∧ Sep [] H H G' H' [p1922, p1931, p1932, p1962, x1977, p2063] ∧ H' p1922 = some (.lst ((v1919 : (List Int)).map V.int)) ∧ H' p1931 = some (.ins AD.c_Settings dx1933 [("fmt", V.ref p1932), ("slots", V.int (v1928.slots)), ("rows", V.int (v1928.rows)), ("deblock", V.bl (v1928.deblock)), ("offset", V.bl (v1928.offset)), ("layers", V.int (v1928.layers))]) ∧ H' p1932 = some (.ins AD.c_Format dx1934 [("width", V.int (v1928.fmt.width)), ("height", V.int (v1928.fmt.height)), ("depth", V.int (v1928.fmt.depth)), ("chroma", V.int (v1928.fmt.chroma))]) ∧ H' p1962 = some (.lst ((v1959 : (List Int)).map V.int)) ∧ H' x1977 = some (.ins AD.c_SliceHeader dx1978 [("number", V.int (v1990.number)), ("index", V.int (v1990.index)), ("delta", V.int (v1990.delta))]) ∧ H' p2063 = some (.lst ((code_2062 : (List Int)).map V.int)) ∧ H p2063 = none ∧ p2063 ≠ p1922 ∧ p2063 ≠ p1931 ∧ p2063 ≠ p1932 ∧ p2063 ≠ p1962 ∧ p2063 ≠ x1977 ∧ cW (F_law_k1 (script') (v1919) (v1928) (((((((itD (v1919) (1)) + 7) / 8) + (itD (v1919) (5))) - 1) / (itD (v1919) (5)))) (v1970) (v1973) (v1976) ((⟨v1990.number, v1990.index, v1990.delta⟩ : St_SliceHeader)) code_2062) KK EE, ?_, ?_⟩
        · obtain ⟨K2064, hK2065, hw⟩ := cW_push hw
          obtain ⟨g2066, hw⟩ := cW_grd hw
          have h2067 := (e2046 _ _ (e2039 _ _ h2033))
          refine ⟨_, rfl, _, _, _, _, rfl, rfl, (SqL.of h2067), (atI_map g2066), _, _, rfl, rfl, _, rfl, ?_⟩
          refine iteD (fun c2068 => ?_) (fun c2068 => ?_)
          · have hw := cW_pos c2068 hw
            refine ⟨(by show 1 ≤ sizeLine; decide), fun p2069 n2070 => ?_⟩
            generalize g2071 : upd H2045 p2069 _ = H2072
            obtain ⟨e2073, h2074⟩ := gen_new n2070 g2071
            have h2075 : H2072 p2069 = some (.lst (([0] : (List Int)).map V.int)) := h2074
            have fr2076 := S2052.free n2070
            have S2077 := S2052.new n2070 e2073 h2075 fr2076
            obtain ⟨g2078, hw⟩ := cW_grd hw
            have h2079 := (e2073 _ _ h2067)
            obtain ⟨g2080, hw⟩ := cW_grd hw
            refine ⟨_, rfl, _, _, _, _, rfl, rfl, (SqL.of h2079), (atI_map g2078), _, _, _, rfl, rfl, h2075, g2080.1, g2080.2.1, (rep_lenM g2080.2.2), fun p2081 n2082 => ?_⟩
            generalize g2083 : upd H2072 p2081 _ = H2084
            obtain ⟨e2085, h2086⟩ := gen_new n2082 g2083
            have h2087 : H2084 p2081 = some (.lst ((repL ([0]) ((itD (v1959) (6))) : (List Int)).map V.int)) := rep_map h2086
            have fr2088 := S2077.free n2082
            have S2089 := S2077.new n2082 e2085 h2087 fr2088
            have hw := cW_ok hw
            have hw := hK2065 _ hw
            have h2090 := (e2085 _ _ (e2073 _ _ (e2046 _ _ (e2039 _ _ (e2027 _ _ (e2019 _ _ (e2008 _ _ (e1999 _ _ ((SameXs.of x1992) _ _ (e1984 _ _ (e1961 _ _ (e1954 _ _ h1944))) (ni1 (ne_of_none (e1961 _ _ (e1954 _ _ h1944)) n1979)))))))))))
            have h2091 := (e2085 _ _ (e2073 _ _ (e2046 _ _ (e2039 _ _ (e2027 _ _ (e2019 _ _ h2015))))))
            have h2092 := (e2085 _ _ (e2073 _ _ (e2046 _ _ (e2039 _ _ (e2027 _ _ (e2019 _ _ h2016))))))
            have h2093 := (e2085 _ _ h2079)
            have h2094 := (e2085 _ _ (e2073 _ _ (e2046 _ _ (e2039 _ _ (e2027 _ _ (e2019 _ _ (e2008 _ _ (e1999 _ _ h1993))))))))
            exact ⟨_, (repL ([0]) ((itD (v1959) (6)))), _, rfl, (Same.refl _), (S2089.sub (all_cons (.tail _ (.tail _ (.tail _ (.tail _ (.tail _ (.tail _ (.tail _ (.tail _ (.tail _ (.tail _ (.tail _ (.tail _ (.head _))))))))))))) (all_cons (.tail _ (.tail _ (.tail _ (.tail _ (.tail _ (.tail _ (.tail _ (.tail _ (.tail _ (.tail _ (.head _))))))))))) (all_cons (.tail _ (.tail _ (.tail _ (.tail _ (.tail _ (.tail _ (.tail _ (.tail _ (.tail _ (.tail _ (.tail _ (.head _)))))))))))) (all_cons (.tail _ (.tail _ (.tail _ (.tail _ (.tail _ (.tail _ (.tail _ (.tail _ (.head _))))))))) (all_cons (.tail _ (.tail _ (.tail _ (.tail _ (.tail _ (.tail _ (.tail _ (.head _)))))))) (all_cons (.head _) all_nil))))))), h2090, h2091, h2092, h2093, h2094, h2087, fr2088, (ne_of_none (e2073 _ _ (e2046 _ _ (e2039 _ _ (e2027 _ _ (e2019 _ _ (e2008 _ _ (e1999 _ _ ((SameXs.of x1992) _ _ (e1984 _ _ (e1961 _ _ (e1954 _ _ h1944))) (ni1 (ne_of_none (e1961 _ _ (e1954 _ _ h1944)) n1979)))))))))) n2082).symm, (ne_of_none (e2073 _ _ (e2046 _ _ (e2039 _ _ (e2027 _ _ (e2019 _ _ h2015))))) n2082).symm, (ne_of_none (e2073 _ _ (e2046 _ _ (e2039 _ _ (e2027 _ _ (e2019 _ _ h2016))))) n2082).symm, (ne_of_none h2079 n2082).symm, (ne_of_none (e2073 _ _ (e2046 _ _ (e2039 _ _ (e2027 _ _ (e2019 _ _ (e2008 _ _ (e1999 _ _ h1993))))))) n2082).symm, hw⟩
          · have hw := cW_neg c2068 hw
            have hw := cW_ok hw
            have hw := hK2065 _ hw
            have h2095 := (e2046 _ _ (e2039 _ _ (e2027 _ _ (e2019 _ _ (e2008 _ _ (e1999 _ _ ((SameXs.of x1992) _ _ (e1984 _ _ (e1961 _ _ (e1954 _ _ h1944))) (ni1 (ne_of_none (e1961 _ _ (e1954 _ _ h1944)) n1979)))))))))
            have h2096 := (e2046 _ _ (e2039 _ _ (e2027 _ _ (e2019 _ _ h2015))))
            have h2097 := (e2046 _ _ (e2039 _ _ (e2027 _ _ (e2019 _ _ h2016))))
            have h2098 := (e2046 _ _ (e2039 _ _ (e2027 _ _ (e2019 _ _ (e2008 _ _ (e1999 _ _ h1993))))))
            exact ⟨_, (v2044), _, rfl, (Same.refl _), (S2052.sub (all_cons (.tail _ (.tail _ (.tail _ (.tail _ (.tail _ (.tail _ (.tail _ (.tail _ (.tail _ (.tail _ (.head _))))))))))) (all_cons (.tail _ (.tail _ (.tail _ (.tail _ (.tail _ (.tail _ (.tail _ (.tail _ (.head _))))))))) (all_cons (.tail _ (.tail _ (.tail _ (.tail _ (.tail _ (.tail _ (.tail _ (.tail _ (.tail _ (.head _)))))))))) (all_cons (.tail _ (.tail _ (.tail _ (.tail _ (.tail _ (.tail _ (.head _))))))) (all_cons (.tail _ (.tail _ (.tail _ (.tail _ (.tail _ (.head _)))))) (all_cons (.head _) all_nil))))))), h2095, h2096, h2097, h2067, h2098, h2050, fr2051, (ne_of_none (e2039 _ _ (e2027 _ _ (e2019 _ _ (e2008 _ _ (e1999 _ _ ((SameXs.of x1992) _ _ (e1984 _ _ (e1961 _ _ (e1954 _ _ h1944))) (ni1 (ne_of_none (e1961 _ _ (e1954 _ _ h1944)) n1979)))))))) n2048).symm, (ne_of_none (e2039 _ _ (e2027 _ _ (e2019 _ _ h2015))) n2048).symm, (ne_of_none (e2039 _ _ (e2027 _ _ (e2019 _ _ h2016))) n2048).symm, (ne_of_none (e2039 _ _ h2033) n2048).symm, (ne_of_none (e2039 _ _ (e2027 _ _ (e2019 _ _ (e2008 _ _ (e1999 _ _ h1993))))) n2048).symm, hw⟩
        · intro σ H2099 hw
          obtain ⟨p2063, code_2062, G2113, rfl, eG2114, S2100, h2101, h2102, h2103, h2104, h2105, h2106, fr2107, ne2108, ne2109, ne2110, ne2111, ne2112, hw⟩ := hw
          unfold F_law_k1 at hw
          refine ⟨_, rfl, _, _, rfl, (SqL.of h2106), fun p2115 n2116 => ?_⟩
          generalize g2117 : upd H2099 p2115 _ = H2118
          obtain ⟨e2119, h2120⟩ := gen_new n2116 g2117
          have h2121 : H2118 p2115 = some (.lst ((code_2062 : (List Int)).map V.int)) := h2120
          have fr2122 := S2100.free n2116
          have S2123 := S2100.new n2116 e2119 h2121 fr2122
          refine ⟨_, rfl, rfl, rfl, G2113, _, rfl, S2123.sG, cW_call hw (fun v2124 hw p2127 H2125 n2128 e2126 h2129 => ?_) (fun e he => (hE e he).elim)⟩
          have h2130 : H2125 p2127 = some (.lst ((v2124 : (List Int)).map V.int)) := h2129
          have fr2131 := S2123.free n2128
          have S2132 := S2123.new n2128 e2126 h2130 fr2131
          refine ⟨_, rfl, rfl, rfl, G2113, _, rfl, S2132.sG, cW_call hw (fun v2133 hw p2136 H2134 n2137 e2135 h2138 => ?_) (fun e he => (hE e he).elim)⟩
          have h2139 : H2134 p2136 = some (.lst ((v2133 : (List Int)).map V.int)) := h2138
          have fr2140 := S2132.free n2137
          have S2141 := S2132.new n2137 e2135 h2139 fr2140
          obtain ⟨g2142, hw⟩ := cW_grd hw
          have h2143 := (e2135 _ _ h2130)
          refine ⟨_, _, _, _, rfl, rfl, h2143, h2139, (cat_lenM g2142), fun p2144 n2145 => ?_⟩
          generalize g2146 : upd H2134 p2144 _ = H2147
          obtain ⟨e2148, h2149⟩ := gen_new n2145 g2146
          have h2150 : H2147 p2144 = some (.lst (((v2124) ++ (v2133) : (List Int)).map V.int)) := cat_map h2149
          have fr2151 := S2141.free n2145
          have S2152 := S2141.new n2145 e2148 h2150 fr2151
          refine ⟨_, rfl, rfl, rfl, G2113, _, rfl, S2152.sG, cW_call hw (fun v2153 hw p2156 H2154 n2157 e2155 h2158 => ?_) (fun e he => (hE e he).elim)⟩
          have h2159 : H2154 p2156 = some (.lst ((v2153 : (List Int)).map V.int)) := h2158
          have fr2160 := S2152.free n2157
          have S2161 := S2152.new n2157 e2155 h2159 fr2160
          obtain ⟨g2162, hw⟩ := cW_grd hw
          have h2163 := (e2155 _ _ h2150)
          refine ⟨_, _, _, _, rfl, rfl, h2163, h2159, (cat_lenM g2162), fun p2164 n2165 => ?_⟩
          generalize g2166 : upd H2154 p2164 _ = H2167
          obtain ⟨e2168, h2169⟩ := gen_new n2165 g2166
          have h2170 : H2167 p2164 = some (.lst ((((v2124) ++ (v2133)) ++ (v2153) : (List Int)).map V.int)) := cat_map h2169
          have fr2171 := S2161.free n2165
          have S2172 := S2161.new n2165 e2168 h2170 fr2171
          refine ⟨rfl, rfl, G2113, _, _, rfl, S2172.sG, (hide_nil h2170), cW_call hw (fun v2173 hw p2176 H2174 n2177 e2175 h2178 => ?_) (fun e he => (hE e he).elim)⟩
          have h2179 : H2174 p2176 = some (.lst ((v2173 : (List Int)).map V.int)) := h2178
          have fr2180 := S2172.free n2177
          have S2181 := S2172.new n2177 e2175 h2179 fr2180
          have h2182 := (e2175 _ _ (e2168 _ _ (e2155 _ _ (e2148 _ _ (e2135 _ _ (e2126 _ _ (e2119 _ _ h2102)))))))
          have h2183 := (e2175 _ _ (e2168 _ _ (e2155 _ _ (e2148 _ _ (e2135 _ _ (e2126 _ _ (e2119 _ _ h2103)))))))
          have h2184 := (e2175 _ _ (e2168 _ _ (e2155 _ _ (e2148 _ _ (e2135 _ _ (e2126 _ _ (e2119 _ _ h2105)))))))
          have h2185 := (e2175 _ _ (e2168 _ _ (e2155 _ _ (e2148 _ _ (e2135 _ _ (e2126 _ _ (e2119 _ _ h2106)))))))
          refine ⟨_, rfl, _, rfl, _, rfl, rfl, rfl, G2113, _, _, _, _, v1928, _, _, (⟨v1990.number, v1990.index, v1990.delta⟩ : St_SliceHeader), _, _, rfl, S2181.sG, (hide_nil h2182), (hide_nil h2183), (hide_nil h2184), (hide_nil h2185), cW_call hw (fun v2186 hw p2189 H2187 n2190 e2188 h2191 => ?_) (fun e he => (hE e he).elim)⟩
          have h2192 : H2187 p2189 = some (.lst ((v2186 : (List Int)).map V.int)) := h2191
          have fr2193 := S2181.free n2190
          have S2194 := S2181.new n2190 e2188 h2192 fr2193
          refine ⟨_, rfl, _, _, _, _, _, rfl, (.ty _), (.base (.lst h2192)), rfl, _, rfl, ?_⟩
          refine iteF ?_
          have h2195 := (e2188 _ _ h2179)
          refine ⟨_, rfl, _, rfl, _, _, rfl, (SqL.of h2195), (by show 1 ≤ sizeLine; decide), fun p2196 n2197 => ?_⟩
          generalize g2198 : upd H2187 p2196 _ = H2199
          obtain ⟨e2200, h2201⟩ := gen_new n2197 g2198
          have h2202 : H2199 p2196 = some (.lst (([(((v2173) : (List Int)).length : Int)] : (List Int)).map V.int)) := h2201
          have fr2203 := S2194.free n2197
          have S2204 := S2194.new n2197 e2200 h2202 fr2203
          obtain ⟨g2205, hw⟩ := cW_grd hw
          have h2206 := (e2200 _ _ h2195)
          refine ⟨_, rfl, _, _, _, _, rfl, rfl, h2202, h2206, (cat_lenM g2205), fun p2207 n2208 => ?_⟩
          generalize g2209 : upd H2199 p2207 _ = H2210
          obtain ⟨e2211, h2212⟩ := gen_new n2208 g2209
          have h2213 : H2210 p2207 = some (.lst ((([(((v2173) : (List Int)).length : Int)]) ++ (v2173) : (List Int)).map V.int)) := cat_map h2212
          have fr2214 := S2204.free n2208
          have S2215 := S2204.new n2208 e2211 h2213 fr2214
          obtain ⟨g2216, hw⟩ := cW_grd hw
          have h2217 := (e2211 _ _ (e2200 _ _ (e2188 _ _ (e2175 _ _ (e2168 _ _ (e2155 _ _ (e2148 _ _ (e2135 _ _ (e2126 _ _ h2121)))))))))
          refine ⟨_, rfl, _, _, _, _, rfl, rfl, h2213, h2217, (cat_lenM g2216), fun p2218 n2219 => ?_⟩
          generalize g2220 : upd H2210 p2218 _ = H2221
          obtain ⟨e2222, h2223⟩ := gen_new n2219 g2220
          have h2224 : H2221 p2218 = some (.lst (((([(((v2173) : (List Int)).length : Int)]) ++ (v2173)) ++ (code_2062) : (List Int)).map V.int)) := cat_map h2223
          have fr2225 := S2215.free n2219
          have S2226 := S2215.new n2219 e2222 h2224 fr2225
          have h2227 := (e2222 _ _ (e2211 _ _ (e2200 _ _ h2192)))
          refine ⟨_, _, (rp_mk_ints h2227), (rp_mk_ints h2224), _, rfl, ?_⟩
          refine iteN (fun c2228 => ?_) (fun c2228 => ?_)
          · have hw := cW_neg c2228 hw
            refine iteT ?_
            have hw := cW_ok hw
            exact eq_bl (k _) (hK0 _ hw).symm
          · have hw := cW_pos c2228 hw
            have h2229 := (e2222 _ _ (e2211 _ _ (e2200 _ _ (e2188 _ _ h2185))))
            have h2230 := (e2222 _ _ h2217)
            refine ⟨_, rfl, _, rfl, _, _, (rp_mk_ints h2229), (rp_mk_ints h2230), _, rfl, ?_⟩
            refine iteN (fun c2231 => ?_) (fun c2231 => ?_)
            · have hw := cW_neg c2231 hw
              have hw := cW_ok hw
              exact eq_bl (k _) (hK0 _ hw).symm
            · have hw := cW_pos c2231 hw
              have h2232 := (e2222 _ _ (e2211 _ _ (e2200 _ _ (e2188 _ _ h2182))))
              have h2233 := (e2222 _ _ (e2211 _ _ (e2200 _ _ (e2188 _ _ h2183))))
              refine ⟨_, rfl, _, rfl, rfl, rfl, G2113, _, _, _, _, v1928, _, _, rfl, S2226.sG, (hide_nil h2232), (hide_nil h2233), (hide_nil h2227), cW_call hw (fun v2234 hw H2235 p2237 p2238 l2239 dx2240 e2236 n2241 n2242 n2243 h2244 h2245 h2246 => ?_) (fun e he => (hE e he).elim)⟩
              have fr2247 := S2226.free n2241
              have fr2248 := S2226.free n2242
              have fr2249 := S2226.free n2243
              have S2250 : Sep _ _ _ _ H2235 [p2237, p2238, l2239, p2218, p2207, p2196, p2189, p2176, p2164, p2156, p2144, p2136, p2127, p2115, p1922, p1931, p1932, p1962, x1977, p2063] := Sep.news S2226 e2236 [p2237, p2238, l2239] (all_cons ⟨n2241, some_ne h2244, fr2247⟩ (all_cons ⟨n2242, some_ne h2245, fr2248⟩ (all_cons ⟨n2243, some_ne h2246, fr2249⟩ all_nil)))
              refine ⟨_, rfl, _, _, _, _, _, rfl, (.ty _), (.base (.tup h2244)), rfl, _, rfl, ?_⟩
              refine iteF ?_
              refine ⟨_, rfl, _, _, _, rfl, (SqT.of h2244), rfl, _, _, rfl, rfl, _, rfl, ?_⟩
              refine iteN (fun c2251 => ?_) (fun c2251 => ?_)
              · have hw := cW_neg c2251 hw
                refine iteT ?_
                have hw := cW_ok hw
                exact eq_bl (k _) (hK0 _ hw).symm
              · have hw := cW_pos c2251 hw
                have h2252 := (e2236 _ _ (e2222 _ _ (e2211 _ _ (e2200 _ _ (e2188 _ _ h2184)))))
                refine ⟨_, rfl, _, _, _, _, rfl, rfl, (SqT.of h2244), rfl, _, rfl, _, _, _, _, _, _, rfl, rfl, h2245, h2252, rfl, rfl, G2113, _, _, v2234.1, _, _, (⟨v1990.number, v1990.index, v1990.delta⟩ : St_SliceHeader), rfl, S2250.sG, (hide_nil h2245), (hide_nil h2252), cW_callN hw (fun v2253 hw H2254 e2255 => ?_) trivial⟩
                have S2256 := S2250.same e2255
                refine ⟨⟨_, rfl⟩, _, rfl, rfl, _, rfl, ?_⟩
                refine iteB (fun c2257 => ?_) (fun c2257 => ?_)
                · have hw := cW_pos c2257 hw
                  refine iteT ?_
                  have hw := cW_ok hw
                  exact eq_bl (k _) (hK0 _ hw).symm
                · have hw := cW_negB c2257 hw
                  have h2258 := (e2255 _ _ h2244)
                  have h2259 := (e2255 _ _ h2246)
                  have h2260 := (e2255 _ _ (e2236 _ _ h2230))
                  refine ⟨_, rfl, _, _, _, _, rfl, rfl, (SqT.of h2258), rfl, _, rfl, _, _, (rp_mk_ints h2259), (rp_mk_ints h2260), _, rfl, ?_⟩
                  refine iteN (fun c2261 => ?_) (fun c2261 => ?_)
                  · have hw := cW_neg c2261 hw
                    have hw := cW_ok hw
                    exact eq_bl (k _) (hK0 _ hw).symm
                  · have hw := cW_pos c2261 hw
                    have h2262 := (e2255 _ _ (e2236 _ _ (e2222 _ _ (e2211 _ _ h2206))))
                    refine ⟨_, rfl, _, rfl, _, _, rfl, (SqL.of h2262), (by show 1 ≤ sizeLine; decide), fun p2263 n2264 => ?_⟩
                    generalize g2265 : upd H2254 p2263 _ = H2266
                    obtain ⟨e2267, h2268⟩ := gen_new n2264 g2265
                    have h2269 : H2266 p2263 = some (.lst (([(((v2173) : (List Int)).length : Int)] : (List Int)).map V.int)) := h2268
                    have fr2270 := S2256.free n2264
                    have S2271 := S2256.new n2264 e2267 h2269 fr2270
                    obtain ⟨g2272, hw⟩ := cW_grd hw
                    have h2273 := (e2267 _ _ h2262)
                    refine ⟨_, rfl, _, _, _, _, rfl, rfl, h2269, h2273, (cat_lenM g2272), fun p2274 n2275 => ?_⟩
                    generalize g2276 : upd H2266 p2274 _ = H2277
                    obtain ⟨e2278, h2279⟩ := gen_new n2275 g2276
                    have h2280 : H2277 p2274 = some (.lst ((([(((v2173) : (List Int)).length : Int)]) ++ (v2173) : (List Int)).map V.int)) := cat_map h2279
                    have fr2281 := S2271.free n2275
                    have S2282 := S2271.new n2275 e2278 h2280 fr2281
                    obtain ⟨g2283, hw⟩ := cW_grd hw
                    have h2284 := (e2278 _ _ (e2267 _ _ h2260))
                    refine ⟨_, rfl, _, _, _, _, rfl, rfl, h2280, h2284, (cat_lenM g2283), fun p2285 n2286 => ?_⟩
                    generalize g2287 : upd H2277 p2285 _ = H2288
                    obtain ⟨e2289, h2290⟩ := gen_new n2286 g2287
                    have h2291 : H2288 p2285 = some (.lst (((([(((v2173) : (List Int)).length : Int)]) ++ (v2173)) ++ (code_2062) : (List Int)).map V.int)) := cat_map h2290
                    have fr2292 := S2282.free n2286
                    have S2293 := S2282.new n2286 e2289 h2291 fr2292
                    have h2294 := (e2289 _ _ (e2278 _ _ (e2267 _ _ (e2255 _ _ (e2236 _ _ h2227)))))
                    refine ⟨_, _, (rp_mk_ints h2294), (rp_mk_ints h2291), _, rfl, ?_⟩
                    refine iteN (fun c2295 => ?_) (fun c2295 => ?_)
                    · have hw := cW_neg c2295 hw
                      refine iteT ?_
                      have hw := cW_ok hw
                      exact eq_bl (k _) (hK0 _ hw).symm
                    · have hw := cW_pos c2295 hw
                      have h2296 := (e2289 _ _ (e2278 _ _ (e2267 _ _ h2258)))
                      have h2297 := (e2289 _ _ (e2278 _ _ (e2267 _ _ h2259)))
                      refine ⟨_, rfl, _, _, _, _, rfl, rfl, (SqT.of h2296), rfl, _, _, _, _, _, rfl, (.ty _), (.base (.lst h2297)), rfl, _, rfl, ?_⟩
                      refine iteF ?_
                      obtain ⟨g2298, hw⟩ := cW_grd hw
                      refine ⟨_, rfl, _, _, _, _, rfl, rfl, (SqT.of h2296), rfl, (.inl ⟨rfl, _, SqL.of h2297⟩), _, _, _, rfl, rfl, h2297, (app_lenM g2298), ?_⟩
                      generalize g2299 : upd H2288 l2239 _ = H2300
                      obtain ⟨x2301, h2302⟩ := gen_mut g2299
                      have h2303 : H2300 l2239 = some (.lst (((v2234.2) ++ [4] : (List Int)).map V.int)) := snoc_map h2302
                      have S2304 := S2293.mut1 x2301 (.tail _ (.tail _ (.tail _ (.tail _ (.tail _ (.head _)))))) h2303
                      have hw := cW_bnd hw
                      have h2306 := (x2301 _ _ (e2289 _ _ (e2278 _ _ (e2267 _ _ (e2255 _ _ (e2236 _ _ h2232))))) (ne_of_none h2232 n2243))
                      have h2307 := (x2301 _ _ (e2289 _ _ (e2278 _ _ (e2267 _ _ (e2255 _ _ (e2236 _ _ h2233))))) (ne_of_none h2233 n2243))
                      have h2308 := (x2301 _ _ h2294 (ne_of_none h2227 n2243))
                      refine ⟨_, rfl, _, rfl, rfl, rfl, G2113, _, _, _, _, v1928, _, _, rfl, S2304.sG, (hide_nil h2306), (hide_nil h2307), (hide_nil h2308), cW_call hw (fun v2309 hw H2310 p2312 p2313 l2314 dx2315 e2311 n2316 n2317 n2318 h2319 h2320 h2321 => ?_) (fun e he => (hE e he).elim)⟩
                      have fr2322 := S2304.free n2316
                      have fr2323 := S2304.free n2317
                      have fr2324 := S2304.free n2318
                      have S2325 : Sep _ _ _ _ H2310 [p2312, p2313, l2314, p2285, p2274, p2263, p2237, p2238, l2239, p2218, p2207, p2196, p2189, p2176, p2164, p2156, p2144, p2136, p2127, p2115, p1922, p1931, p1932, p1962, x1977, p2063] := Sep.news S2304 e2311 [p2312, p2313, l2314] (all_cons ⟨n2316, some_ne h2319, fr2322⟩ (all_cons ⟨n2317, some_ne h2320, fr2323⟩ (all_cons ⟨n2318, some_ne h2321, fr2324⟩ all_nil)))
                      have h2326 := (e2311 _ _ (x2301 _ _ (e2289 _ _ h2284) (ne_of_none h2230 n2243)))
                      refine ⟨_, _, _, _, rfl, rfl, (SqT.of h2319), rfl, _, rfl, _, _, (rp_mk_ints h2321), (rp_mk_ints h2326), _, rfl, ?_⟩
                      refine iteN (fun c2327 => ?_) (fun c2327 => ?_)
                      · have hw := cW_neg c2327 hw
                        refine iteT ?_
                        have hw := cW_ok hw
                        exact eq_bl (k _) (hK0 _ hw).symm
                      · have hw := cW_pos c2327 hw
                        have h2328 := (e2311 _ _ (x2301 _ _ h2296 (ne_of h2296 h2297 (fun z => nomatch z))))
                        have h2329 := (e2311 _ _ h2306)
                        have h2330 := (e2311 _ _ h2307)
                        have h2331 := (e2311 _ _ (x2301 _ _ (e2289 _ _ (e2278 _ _ (e2267 _ _ (e2255 _ _ h2245)))) (ne_of h2245 h2246 (fun z => nomatch z))))
                        refine ⟨_, rfl, _, rfl, _, _, _, _, rfl, rfl, (SqT.of h2328), rfl, _, rfl, rfl, rfl, G2113, _, _, _, _, v1928, _, _, v2234.1, _, _, rfl, S2325.sG, (hide_nil h2329), (hide_nil h2330), (hide_nil h2331), (hide_nil h2326), cW_call hw (fun v2332 hw p2335 H2333 n2336 e2334 h2337 => ?_) (fun e he => (hE e he).elim)⟩
                        have h2338 : H2333 p2335 = some (.lst ((v2332 : (List Int)).map V.int)) := h2337
                        have fr2339 := S2325.free n2336
                        have S2340 := S2325.new n2336 e2334 h2338 fr2339
                        have h2341 := (e2334 _ _ (e2311 _ _ h2308))
                        refine ⟨_, rfl, _, _, (rp_mk_ints h2338), (rp_mk_ints h2341), _, rfl, ?_⟩
                        refine iteN (fun c2342 => ?_) (fun c2342 => ?_)
                        · have hw := cW_neg c2342 hw
                          have hw := cW_ok hw
                          exact eq_bl (k _) (hK0 _ hw).symm
                        · have hw := cW_pos c2342 hw
                          refine ⟨_, rfl, _, rfl, _, rfl, _, rfl, rfl, rfl, G2113, _, _, _, rfl, S2340.sG, (S2340.b0.seq q_script), cW_call hw (fun v2343 hw => ?_) (fun e he => (hE e he).elim)⟩
                          have h2344 := (e2334 _ _ h2329)
                          have h2345 := (e2334 _ _ h2330)
                          have h2346 := (e2334 _ _ (e2311 _ _ (x2301 _ _ (e2289 _ _ (e2278 _ _ (e2267 _ _ (e2255 _ _ h2252)))) (ne_of_none (e2222 _ _ (e2211 _ _ (e2200 _ _ (e2188 _ _ h2184)))) n2243))))
                          have h2347 := (e2334 _ _ (e2311 _ _ (x2301 _ _ (e2289 _ _ (e2278 _ _ h2273)) (ne_of_none (e2222 _ _ (e2211 _ _ h2206)) n2243))))
                          refine ⟨rfl, rfl, G2113, _, _, _, _, v1928, _, _, (⟨v1990.number, v1990.index, v1990.delta⟩ : St_SliceHeader), _, _, _, rfl, S2340.sG, (hide_nil h2344), (hide_nil h2345), (hide_nil h2346), (hide_nil h2347), cW_call hw (fun v2348 hw H2349 e2350 => ?_) (fun e he => (hE e he).elim)⟩
                          have S2351 := S2340.same e2350
                          refine ⟨_, rfl, ?_⟩
                          refine iteBN (fun c2352 => ?_) (fun c2352 => ?_)
                          · have hw := cW_negB c2352 hw
                            have hw := cW_ok hw
                            exact eq_bl (k _) (hK0 _ hw).symm
                          · have hw := cW_pos c2352 hw
                            refine ⟨_, rfl, rfl, rfl, G2113, _, _, _, rfl, S2351.sG, (S2351.b0.seq q_script), cW_call hw (fun v2353 hw => ?_) (fun e he => (hE e he).elim)⟩
                            have h2354 := (e2350 _ _ (e2334 _ _ (e2311 _ _ (x2301 _ _ (e2289 _ _ (e2278 _ _ (e2267 _ _ (e2255 _ _ (e2236 _ _ (e2222 _ _ (e2211 _ _ (e2200 _ _ (e2188 _ _ (e2175 _ _ (e2168 _ _ (e2155 _ _ (e2148 _ _ (e2135 _ _ (e2126 _ _ (e2119 _ _ h2101)))))))))))))))) (ne_of_none (e2222 _ _ (e2211 _ _ (e2200 _ _ (e2188 _ _ (e2175 _ _ (e2168 _ _ (e2155 _ _ (e2148 _ _ (e2135 _ _ (e2126 _ _ (e2119 _ _ h2101))))))))))) n2243)))))
                            refine ⟨_, rfl, rfl, rfl, G2113, _, _, _, rfl, S2351.sG, (hide_nil h2354), cW_call hw (fun v2355 hw v2358 H2356 G2359 e2357 eG2360 sG2361 hn2362 r2363 => ?_) (fun e he => (hE e he).elim)⟩
                            have S2364 := S2351.step e2357 eG2360 sG2361 hn2362
                            obtain ⟨a2365, vs2366, rfl, h2367, d2368⟩ := rp_list r2363
                            have h2369 := (e2357 _ _ (e2350 _ _ h2344))
                            have h2370 := (e2357 _ _ (e2350 _ _ h2345))
                            refine ⟨_, rfl, _, rfl, rfl, rfl, G2359, _, _, _, _, v1928, _, _, rfl, S2364.sG, (hide_nil h2369), (hide_nil h2370), (Rp.hide_nil (rp_mk_list (S2364.sG _ _ h2367) (RpAll.mono S2364.sG d2368))), cW_call hw (fun v2371 hw H2372 p2374 l2375 l2376 dx2377 e2373 n2378 n2379 n2380 ne2384 h2381 h2382 h2383 => ?_) (fun e he => (hE e he).elim)⟩
                            have fr2385 := S2364.free n2378
                            have fr2386 := S2364.free n2379
                            have fr2387 := S2364.free n2380
                            have S2388 : Sep _ _ _ _ H2372 [p2374, l2375, l2376, p2335, p2312, p2313, l2314, p2285, p2274, p2263, p2237, p2238, l2239, p2218, p2207, p2196, p2189, p2176, p2164, p2156, p2144, p2136, p2127, p2115, p1922, p1931, p1932, p1962, x1977, p2063] := Sep.news S2364 e2373 [p2374, l2375, l2376] (all_cons ⟨n2378, some_ne h2381, fr2385⟩ (all_cons ⟨n2379, some_ne h2382, fr2386⟩ (all_cons ⟨n2380, some_ne h2383, fr2387⟩ all_nil)))
                            have h2389 := (e2373 _ _ (e2357 _ _ (e2350 _ _ h2346)))
                            refine ⟨_, rfl, rfl, rfl, G2359, _, _, _, _, v2371, _, _, (⟨v1990.number, v1990.index, v1990.delta⟩ : St_SliceHeader), rfl, S2388.sG, (hide_nil h2381), (hide_nil h2382), (hide_nil h2383), (hide_nil h2389), cW_call hw (fun v2390 hw H2391 e2392 => ?_) (fun e he => (hE e he).elim)⟩
                            have S2393 := S2388.same e2392
                            obtain ⟨g2394, hw⟩ := cW_grd hw
                            obtain ⟨v2395, a2396, r2397⟩ := RpAll.ixD (k := 2) d2368 g2394
                            obtain ⟨g2398, hw⟩ := cW_grd hw
                            have r2399 : Rp G2359 v2395 (PyData.int ((cI).dec ((itD (v2355) (2))))) := rp_dcast cI g2398 r2397
                            obtain rfl := rp_int r2399
                            refine ⟨_, rfl, _, _, _, _, rfl, rfl, (SqL.of (S2393.sG _ _ h2367)), a2396, _, rfl, _, _, rfl, rfl, _, _, rfl, _, _, rfl, _, _, rfl, rfl, _, rfl, ?_⟩
                            refine iteN (fun c2400 => ?_) (fun c2400 => ?_)
                            · have hw := cW_neg c2400 hw
                              have hw := cW_ok hw
                              exact eq_bl (k _) (hK0 _ hw).symm
                            · have hw := cW_pos c2400 hw
                              refine ⟨_, rfl, _, rfl, _, _, rfl, rfl, .inl ⟨_, rfl, ?_⟩⟩
                              refine ⟨_, _, rfl, rfl, (show (0 : Int) < 1000 by decide), _, rfl, _, rfl, rfl, rfl, fun x2401 dx2402 n2403 n2404 n2405 => ?_⟩
                              generalize g2406 : upd (upd H2391 dx2402 _) x2401 _ = H2407
                              obtain ⟨e2408, h2409⟩ := gen_obj n2403 n2404 n2405 g2406
                              have fr2410 := S2393.free n2403
                              have S2411 := S2393.new n2403 e2408 h2409 fr2410
                              have h2412 := (e2408 _ _ (e2392 _ _ (e2373 _ _ h2369)))
                              have h2413 := (e2408 _ _ (e2392 _ _ (e2373 _ _ h2370)))
                              refine ⟨G2359, _, _, _, _, _, _, v1928, _, _, _, rfl, S2411.sG, (S2411.gno (all_cons (.head _) all_nil)), h2409, ((hideL_out (ni1 (ne_of_none (e2392 _ _ (e2373 _ _ h2369)) n2403))).trans h2412), ((hideL_out (ni1 (ne_of_none (e2392 _ _ (e2373 _ _ h2370)) n2403))).trans h2413), cW_call hw (fun v2414 hw H2415 x2416 h2417 => ⟨rfl, ?_⟩) (fun e he => (hE e he).elim)⟩
                              have S2418 : Sep _ _ _ _ H2415 [x2401, p2374, l2375, l2376, p2335, p2312, p2313, l2314, p2285, p2274, p2263, p2237, p2238, l2239, p2218, p2207, p2196, p2189, p2176, p2164, p2156, p2144, p2136, p2127, p2115, p1922, p1931, p1932, p1962, x1977, p2063] := Sep.init S2411 x2416 (.head _) h2417 [] all_nil
                              have h2419 := ((SameXs.of x2416) _ _ (e2408 _ _ (e2392 _ _ h2389)) (ni1 (ne_of_none (e2392 _ _ h2389) n2403)))
                              refine ⟨_, rfl, _, rfl, _, _, _, _, _, _, rfl, rfl, h2417, h2419, rfl, rfl, G2359, _, _, (⟨v2414.number, v2414.index, v2414.delta⟩ : St_SliceHeader), _, _, (⟨v1990.number, v1990.index, v1990.delta⟩ : St_SliceHeader), rfl, S2418.sG, (hide_nil h2417), (hide_nil h2419), cW_callN hw (fun v2420 hw H2421 e2422 => ?_) trivial⟩
                              have S2423 := S2418.same e2422
                              refine ⟨⟨_, rfl⟩, _, rfl, rfl, _, rfl, ?_⟩
                              refine iteB (fun c2424 => ?_) (fun c2424 => ?_)
                              · have hw := cW_pos c2424 hw
                                have hw := cW_ok hw
                                exact eq_bl (k _) (hK0 _ hw).symm
                              · have hw := cW_negB c2424 hw
                                refine ⟨fun σ H' => ∃ (u2430 : Option V) (G' : Hp), σ = [some (V.ref a_script), some (V.ref p1922), some (V.ref p1931), some (V.int (((((((itD (v1919) (1)) + 7) / 8) + (itD (v1919) (5))) - 1) / (itD (v1919) (5))))), some (V.ref p1962), some (V.int (v1970)), some (V.int (v1973)), some (V.int (v1976)), some (V.ref x1977), some (V.ref p2063), some (V.ref p2115), some (V.ref p2176), some (V.ref p2189), some (V.ref p2237), some (V.ref a2365), u2430, none] ∧ Same G2359 G' ∧ Sep [] H H G' H' [p1922, p1931, p1932, p1962, x1977, p2063, p2115, p2176, p2189, l2239] ∧ H' p1922 = some (.lst ((v1919 : (List Int)).map V.int)) ∧ H' p1931 = some (.ins AD.c_Settings dx1933 [("fmt", V.ref p1932), ("slots", V.int (v1928.slots)), ("rows", V.int (v1928.rows)), ("deblock", V.bl (v1928.deblock)), ("offset", V.bl (v1928.offset)), ("layers", V.int (v1928.layers))]) ∧ H' p1932 = some (.ins AD.c_Format dx1934 [("width", V.int (v1928.fmt.width)), ("height", V.int (v1928.fmt.height)), ("depth", V.int (v1928.fmt.depth)), ("chroma", V.int (v1928.fmt.chroma))]) ∧ H' p1962 = some (.lst ((v1959 : (List Int)).map V.int)) ∧ H' x1977 = some (.ins AD.c_SliceHeader dx1978 [("number", V.int (v1990.number)), ("index", V.int (v1990.index)), ("delta", V.int (v1990.delta))]) ∧ H' p2063 = some (.lst ((code_2062 : (List Int)).map V.int)) ∧ H' p2115 = some (.lst ((code_2062 : (List Int)).map V.int)) ∧ H' p2176 = some (.lst ((v2173 : (List Int)).map V.int)) ∧ H' p2189 = some (.lst ((v2186 : (List Int)).map V.int)) ∧ H' l2239 = some (.lst (((v2234.2) ++ [4] : (List Int)).map V.int)) ∧ cW (F_law_k2 (v1928) (v1970) (v1973) (v1976) ((⟨v1990.number, v1990.index, v1990.delta⟩ : St_SliceHeader)) ) KK EE, ?_, ?_⟩
                                · obtain ⟨K2431, hK2432, hw⟩ := cW_push hw
                                  refine ⟨_, rfl, _, _, rfl, rfl, _, rfl, ?_⟩
                                  refine iteD (fun c2433 => ?_) (fun c2433 => ?_)
                                  · have hw := cW_pos c2433 hw
                                    refine ⟨_, rfl, _, rfl, _, rfl, _, _, rfl, rfl, .inl ⟨_, rfl, ?_⟩⟩
                                    obtain ⟨g2434, hw⟩ := cW_grd hw
                                    refine ⟨_, rfl, _, _, rfl, rfl, g2434, _, rfl, rfl, rfl, fun x2435 dx2436 n2437 n2438 n2439 => ?_⟩
                                    generalize g2440 : upd (upd H2421 dx2436 _) x2435 _ = H2441
                                    obtain ⟨e2442, h2443⟩ := gen_obj n2437 n2438 n2439 g2440
                                    have fr2444 := S2423.free n2437
                                    have S2445 := S2423.new n2437 e2442 h2443 fr2444
                                    have h2446 := (e2442 _ _ (e2422 _ _ ((SameXs.of x2416) _ _ h2412 (ni1 (ne_of_none (e2392 _ _ (e2373 _ _ h2369)) n2403)))))
                                    have h2447 := (e2442 _ _ (e2422 _ _ ((SameXs.of x2416) _ _ h2413 (ni1 (ne_of_none (e2392 _ _ (e2373 _ _ h2370)) n2403)))))
                                    refine ⟨G2359, _, _, _, _, _, _, v1928, _, _, _, rfl, S2445.sG, (S2445.gno (all_cons (.head _) all_nil)), h2443, ((hideL_out (ni1 (ne_of_none (e2422 _ _ ((SameXs.of x2416) _ _ h2412 (ni1 (ne_of_none (e2392 _ _ (e2373 _ _ h2369)) n2403)))) n2437))).trans h2446), ((hideL_out (ni1 (ne_of_none (e2422 _ _ ((SameXs.of x2416) _ _ h2413 (ni1 (ne_of_none (e2392 _ _ (e2373 _ _ h2370)) n2403)))) n2437))).trans h2447), cW_call hw (fun v2448 hw H2449 x2450 h2451 => ⟨rfl, ?_⟩) (fun e he => (hE e he).elim)⟩
                                    have S2452 : Sep _ _ _ _ H2449 [x2435, x2401, p2374, l2375, l2376, p2335, p2312, p2313, l2314, p2285, p2274, p2263, p2237, p2238, l2239, p2218, p2207, p2196, p2189, p2176, p2164, p2156, p2144, p2136, p2127, p2115, p1922, p1931, p1932, p1962, x1977, p2063] := Sep.init S2445 x2450 (.head _) h2451 [] all_nil
                                    have h2453 := ((SameXs.of x2450) _ _ (e2442 _ _ (e2422 _ _ h2419)) (ni1 (ne_of_none (e2422 _ _ h2419) n2437)))
                                    refine ⟨_, rfl, _, rfl, _, _, _, _, _, _, rfl, rfl, h2451, h2453, rfl, rfl, G2359, _, _, (⟨v2448.number, v2448.index, v2448.delta⟩ : St_SliceHeader), _, _, (⟨v1990.number, v1990.index, v1990.delta⟩ : St_SliceHeader), rfl, S2452.sG, (hide_nil h2451), (hide_nil h2453), cW_callN hw (fun v2454 hw H2455 e2456 => ?_) trivial⟩
                                    have S2457 := S2452.same e2456
                                    refine ⟨⟨_, rfl⟩, _, rfl, rfl, _, rfl, ?_⟩
                                    refine iteB (fun c2458 => ?_) (fun c2458 => ?_)
                                    · have hw := cW_pos c2458 hw
                                      have hw := cW_ok hw
                                      have hw := hK2432 (.rt _) hw
                                      have hw := cW_ok hw
                                      exact eq_bl (k _) (hK0 _ hw).symm
                                    · have hw := cW_negB c2458 hw
                                      have hw := cW_ok hw
                                      have hw := cW_aftgo (hK2432 (.go _) hw)
                                      have h2459 := (e2456 _ _ ((SameXs.of x2450) _ _ (e2442 _ _ (e2422 _ _ ((SameXs.of x2416) _ _ (e2408 _ _ (e2392 _ _ (e2373 _ _ (e2357 _ _ h2354)))) (ni1 (ne_of_none (e2392 _ _ (e2373 _ _ (e2357 _ _ h2354))) n2403))))) (ni1 (ne_of_none (e2422 _ _ ((SameXs.of x2416) _ _ (e2408 _ _ (e2392 _ _ (e2373 _ _ (e2357 _ _ h2354)))) (ni1 (ne_of_none (e2392 _ _ (e2373 _ _ (e2357 _ _ h2354))) n2403)))) n2437))))
                                      have h2460 := (e2456 _ _ ((SameXs.of x2450) _ _ h2446 (ni1 (ne_of_none (e2422 _ _ ((SameXs.of x2416) _ _ h2412 (ni1 (ne_of_none (e2392 _ _ (e2373 _ _ h2369)) n2403)))) n2437))))
                                      have h2461 := (e2456 _ _ ((SameXs.of x2450) _ _ h2447 (ni1 (ne_of_none (e2422 _ _ ((SameXs.of x2416) _ _ h2413 (ni1 (ne_of_none (e2392 _ _ (e2373 _ _ h2370)) n2403)))) n2437))))
                                      have h2462 := (e2456 _ _ ((SameXs.of x2450) _ _ (e2442 _ _ (e2422 _ _ ((SameXs.of x2416) _ _ (e2408 _ _ (e2392 _ _ (e2373 _ _ (e2357 _ _ (e2350 _ _ (e2334 _ _ (e2311 _ _ (x2301 _ _ (e2289 _ _ (e2278 _ _ (e2267 _ _ (e2255 _ _ (e2236 _ _ (e2222 _ _ (e2211 _ _ (e2200 _ _ (e2188 _ _ (e2175 _ _ (e2168 _ _ (e2155 _ _ (e2148 _ _ (e2135 _ _ (e2126 _ _ (e2119 _ _ h2104)))))))))))))))) (ne_of_none (e2222 _ _ (e2211 _ _ (e2200 _ _ (e2188 _ _ (e2175 _ _ (e2168 _ _ (e2155 _ _ (e2148 _ _ (e2135 _ _ (e2126 _ _ (e2119 _ _ h2104))))))))))) n2243))))))))) (ni1 (ne_of_none (e2392 _ _ (e2373 _ _ (e2357 _ _ (e2350 _ _ (e2334 _ _ (e2311 _ _ (x2301 _ _ (e2289 _ _ (e2278 _ _ (e2267 _ _ (e2255 _ _ (e2236 _ _ (e2222 _ _ (e2211 _ _ (e2200 _ _ (e2188 _ _ (e2175 _ _ (e2168 _ _ (e2155 _ _ (e2148 _ _ (e2135 _ _ (e2126 _ _ (e2119 _ _ h2104)))))))))))))))) (ne_of_none (e2222 _ _ (e2211 _ _ (e2200 _ _ (e2188 _ _ (e2175 _ _ (e2168 _ _ (e2155 _ _ (e2148 _ _ (e2135 _ _ (e2126 _ _ (e2119 _ _ h2104))))))))))) n2243)))))))) n2403))))) (ni1 (ne_of_none (e2422 _ _ ((SameXs.of x2416) _ _ (e2408 _ _ (e2392 _ _ (e2373 _ _ (e2357 _ _ (e2350 _ _ (e2334 _ _ (e2311 _ _ (x2301 _ _ (e2289 _ _ (e2278 _ _ (e2267 _ _ (e2255 _ _ (e2236 _ _ (e2222 _ _ (e2211 _ _ (e2200 _ _ (e2188 _ _ (e2175 _ _ (e2168 _ _ (e2155 _ _ (e2148 _ _ (e2135 _ _ (e2126 _ _ (e2119 _ _ h2104)))))))))))))))) (ne_of_none (e2222 _ _ (e2211 _ _ (e2200 _ _ (e2188 _ _ (e2175 _ _ (e2168 _ _ (e2155 _ _ (e2148 _ _ (e2135 _ _ (e2126 _ _ (e2119 _ _ h2104))))))))))) n2243))))))))) (ni1 (ne_of_none (e2392 _ _ (e2373 _ _ (e2357 _ _ (e2350 _ _ (e2334 _ _ (e2311 _ _ (x2301 _ _ (e2289 _ _ (e2278 _ _ (e2267 _ _ (e2255 _ _ (e2236 _ _ (e2222 _ _ (e2211 _ _ (e2200 _ _ (e2188 _ _ (e2175 _ _ (e2168 _ _ (e2155 _ _ (e2148 _ _ (e2135 _ _ (e2126 _ _ (e2119 _ _ h2104)))))))))))))))) (ne_of_none (e2222 _ _ (e2211 _ _ (e2200 _ _ (e2188 _ _ (e2175 _ _ (e2168 _ _ (e2155 _ _ (e2148 _ _ (e2135 _ _ (e2126 _ _ (e2119 _ _ h2104))))))))))) n2243)))))))) n2403)))) n2437))))
                                      have h2463 := (e2456 _ _ h2453)
                                      have h2464 := (e2456 _ _ ((SameXs.of x2450) _ _ (e2442 _ _ (e2422 _ _ ((SameXs.of x2416) _ _ (e2408 _ _ (e2392 _ _ (e2373 _ _ (e2357 _ _ (e2350 _ _ (e2334 _ _ (e2311 _ _ (x2301 _ _ (e2289 _ _ (e2278 _ _ (e2267 _ _ (e2255 _ _ (e2236 _ _ h2229))))) (ne_of_none h2229 n2243))))))))) (ni1 (ne_of_none (e2392 _ _ (e2373 _ _ (e2357 _ _ (e2350 _ _ (e2334 _ _ (e2311 _ _ (x2301 _ _ (e2289 _ _ (e2278 _ _ (e2267 _ _ (e2255 _ _ (e2236 _ _ h2229))))) (ne_of_none h2229 n2243)))))))) n2403))))) (ni1 (ne_of_none (e2422 _ _ ((SameXs.of x2416) _ _ (e2408 _ _ (e2392 _ _ (e2373 _ _ (e2357 _ _ (e2350 _ _ (e2334 _ _ (e2311 _ _ (x2301 _ _ (e2289 _ _ (e2278 _ _ (e2267 _ _ (e2255 _ _ (e2236 _ _ h2229))))) (ne_of_none h2229 n2243))))))))) (ni1 (ne_of_none (e2392 _ _ (e2373 _ _ (e2357 _ _ (e2350 _ _ (e2334 _ _ (e2311 _ _ (x2301 _ _ (e2289 _ _ (e2278 _ _ (e2267 _ _ (e2255 _ _ (e2236 _ _ h2229))))) (ne_of_none h2229 n2243)))))))) n2403)))) n2437))))
                                      have h2465 := (e2456 _ _ ((SameXs.of x2450) _ _ (e2442 _ _ (e2422 _ _ ((SameXs.of x2416) _ _ (e2408 _ _ (e2392 _ _ (e2373 _ _ (e2357 _ _ (e2350 _ _ (e2334 _ _ h2326)))))) (ni1 (ne_of_none (e2392 _ _ (e2373 _ _ (e2357 _ _ (e2350 _ _ (e2334 _ _ h2326))))) n2403))))) (ni1 (ne_of_none (e2422 _ _ ((SameXs.of x2416) _ _ (e2408 _ _ (e2392 _ _ (e2373 _ _ (e2357 _ _ (e2350 _ _ (e2334 _ _ h2326)))))) (ni1 (ne_of_none (e2392 _ _ (e2373 _ _ (e2357 _ _ (e2350 _ _ (e2334 _ _ h2326))))) n2403)))) n2437))))
                                      have h2466 := (e2456 _ _ ((SameXs.of x2450) _ _ (e2442 _ _ (e2422 _ _ ((SameXs.of x2416) _ _ (e2408 _ _ (e2392 _ _ (e2373 _ _ (e2357 _ _ (e2350 _ _ h2347))))) (ni1 (ne_of_none (e2392 _ _ (e2373 _ _ (e2357 _ _ (e2350 _ _ h2347)))) n2403))))) (ni1 (ne_of_none (e2422 _ _ ((SameXs.of x2416) _ _ (e2408 _ _ (e2392 _ _ (e2373 _ _ (e2357 _ _ (e2350 _ _ h2347))))) (ni1 (ne_of_none (e2392 _ _ (e2373 _ _ (e2357 _ _ (e2350 _ _ h2347)))) n2403)))) n2437))))
                                      have h2467 := (e2456 _ _ ((SameXs.of x2450) _ _ (e2442 _ _ (e2422 _ _ ((SameXs.of x2416) _ _ (e2408 _ _ (e2392 _ _ (e2373 _ _ (e2357 _ _ (e2350 _ _ h2341))))) (ni1 (ne_of_none (e2392 _ _ (e2373 _ _ (e2357 _ _ (e2350 _ _ h2341)))) n2403))))) (ni1 (ne_of_none (e2422 _ _ ((SameXs.of x2416) _ _ (e2408 _ _ (e2392 _ _ (e2373 _ _ (e2357 _ _ (e2350 _ _ h2341))))) (ni1 (ne_of_none (e2392 _ _ (e2373 _ _ (e2357 _ _ (e2350 _ _ h2341)))) n2403)))) n2437))))
                                      have h2468 := (e2456 _ _ ((SameXs.of x2450) _ _ (e2442 _ _ (e2422 _ _ ((SameXs.of x2416) _ _ (e2408 _ _ (e2392 _ _ (e2373 _ _ (e2357 _ _ (e2350 _ _ (e2334 _ _ (e2311 _ _ h2303))))))) (ni1 (ne_of_none (e2392 _ _ (e2373 _ _ (e2357 _ _ (e2350 _ _ (e2334 _ _ (e2311 _ _ h2303)))))) n2403))))) (ni1 (ne_of_none (e2422 _ _ ((SameXs.of x2416) _ _ (e2408 _ _ (e2392 _ _ (e2373 _ _ (e2357 _ _ (e2350 _ _ (e2334 _ _ (e2311 _ _ h2303))))))) (ni1 (ne_of_none (e2392 _ _ (e2373 _ _ (e2357 _ _ (e2350 _ _ (e2334 _ _ (e2311 _ _ h2303)))))) n2403)))) n2437))))
                                      exact ⟨_, _, rfl, (Same.refl _), (S2457.sub (all_cons (.tail _ (.tail _ (.tail _ (.tail _ (.tail _ (.tail _ (.tail _ (.tail _ (.tail _ (.tail _ (.tail _ (.tail _ (.tail _ (.tail _ (.tail _ (.tail _ (.tail _ (.tail _ (.tail _ (.tail _ (.tail _ (.tail _ (.tail _ (.tail _ (.tail _ (.tail _ (.head _))))))))))))))))))))))))))) (all_cons (.tail _ (.tail _ (.tail _ (.tail _ (.tail _ (.tail _ (.tail _ (.tail _ (.tail _ (.tail _ (.tail _ (.tail _ (.tail _ (.tail _ (.tail _ (.tail _ (.tail _ (.tail _ (.tail _ (.tail _ (.tail _ (.tail _ (.tail _ (.tail _ (.tail _ (.tail _ (.tail _ (.head _)))))))))))))))))))))))))))) (all_cons (.tail _ (.tail _ (.tail _ (.tail _ (.tail _ (.tail _ (.tail _ (.tail _ (.tail _ (.tail _ (.tail _ (.tail _ (.tail _ (.tail _ (.tail _ (.tail _ (.tail _ (.tail _ (.tail _ (.tail _ (.tail _ (.tail _ (.tail _ (.tail _ (.tail _ (.tail _ (.tail _ (.tail _ (.head _))))))))))))))))))))))))))))) (all_cons (.tail _ (.tail _ (.tail _ (.tail _ (.tail _ (.tail _ (.tail _ (.tail _ (.tail _ (.tail _ (.tail _ (.tail _ (.tail _ (.tail _ (.tail _ (.tail _ (.tail _ (.tail _ (.tail _ (.tail _ (.tail _ (.tail _ (.tail _ (.tail _ (.tail _ (.tail _ (.tail _ (.tail _ (.tail _ (.head _)))))))))))))))))))))))))))))) (all_cons (.tail _ (.tail _ (.tail _ (.tail _ (.tail _ (.tail _ (.tail _ (.tail _ (.tail _ (.tail _ (.tail _ (.tail _ (.tail _ (.tail _ (.tail _ (.tail _ (.tail _ (.tail _ (.tail _ (.tail _ (.tail _ (.tail _ (.tail _ (.tail _ (.tail _ (.tail _ (.tail _ (.tail _ (.tail _ (.tail _ (.head _))))))))))))))))))))))))))))))) (all_cons (.tail _ (.tail _ (.tail _ (.tail _ (.tail _ (.tail _ (.tail _ (.tail _ (.tail _ (.tail _ (.tail _ (.tail _ (.tail _ (.tail _ (.tail _ (.tail _ (.tail _ (.tail _ (.tail _ (.tail _ (.tail _ (.tail _ (.tail _ (.tail _ (.tail _ (.tail _ (.tail _ (.tail _ (.tail _ (.tail _ (.tail _ (.head _)))))))))))))))))))))))))))))))) (all_cons (.tail _ (.tail _ (.tail _ (.tail _ (.tail _ (.tail _ (.tail _ (.tail _ (.tail _ (.tail _ (.tail _ (.tail _ (.tail _ (.tail _ (.tail _ (.tail _ (.tail _ (.tail _ (.tail _ (.tail _ (.tail _ (.tail _ (.tail _ (.tail _ (.tail _ (.head _)))))))))))))))))))))))))) (all_cons (.tail _ (.tail _ (.tail _ (.tail _ (.tail _ (.tail _ (.tail _ (.tail _ (.tail _ (.tail _ (.tail _ (.tail _ (.tail _ (.tail _ (.tail _ (.tail _ (.tail _ (.tail _ (.tail _ (.head _)))))))))))))))))))) (all_cons (.tail _ (.tail _ (.tail _ (.tail _ (.tail _ (.tail _ (.tail _ (.tail _ (.tail _ (.tail _ (.tail _ (.tail _ (.tail _ (.tail _ (.tail _ (.tail _ (.tail _ (.tail _ (.head _))))))))))))))))))) (all_cons (.tail _ (.tail _ (.tail _ (.tail _ (.tail _ (.tail _ (.tail _ (.tail _ (.tail _ (.tail _ (.tail _ (.tail _ (.tail _ (.tail _ (.head _))))))))))))))) all_nil))))))))))), h2459, h2460, h2461, h2462, h2463, h2464, h2465, h2466, h2467, h2468, hw⟩
                                  · have hw := cW_neg c2433 hw
                                    have hw := cW_ok hw
                                    have hw := cW_aftgo (hK2432 (.go _) hw)
                                    have h2469 := (e2422 _ _ ((SameXs.of x2416) _ _ (e2408 _ _ (e2392 _ _ (e2373 _ _ (e2357 _ _ h2354)))) (ni1 (ne_of_none (e2392 _ _ (e2373 _ _ (e2357 _ _ h2354))) n2403))))
                                    have h2470 := (e2422 _ _ ((SameXs.of x2416) _ _ h2412 (ni1 (ne_of_none (e2392 _ _ (e2373 _ _ h2369)) n2403))))
                                    have h2471 := (e2422 _ _ ((SameXs.of x2416) _ _ h2413 (ni1 (ne_of_none (e2392 _ _ (e2373 _ _ h2370)) n2403))))
                                    have h2472 := (e2422 _ _ ((SameXs.of x2416) _ _ (e2408 _ _ (e2392 _ _ (e2373 _ _ (e2357 _ _ (e2350 _ _ (e2334 _ _ (e2311 _ _ (x2301 _ _ (e2289 _ _ (e2278 _ _ (e2267 _ _ (e2255 _ _ (e2236 _ _ (e2222 _ _ (e2211 _ _ (e2200 _ _ (e2188 _ _ (e2175 _ _ (e2168 _ _ (e2155 _ _ (e2148 _ _ (e2135 _ _ (e2126 _ _ (e2119 _ _ h2104)))))))))))))))) (ne_of_none (e2222 _ _ (e2211 _ _ (e2200 _ _ (e2188 _ _ (e2175 _ _ (e2168 _ _ (e2155 _ _ (e2148 _ _ (e2135 _ _ (e2126 _ _ (e2119 _ _ h2104))))))))))) n2243))))))))) (ni1 (ne_of_none (e2392 _ _ (e2373 _ _ (e2357 _ _ (e2350 _ _ (e2334 _ _ (e2311 _ _ (x2301 _ _ (e2289 _ _ (e2278 _ _ (e2267 _ _ (e2255 _ _ (e2236 _ _ (e2222 _ _ (e2211 _ _ (e2200 _ _ (e2188 _ _ (e2175 _ _ (e2168 _ _ (e2155 _ _ (e2148 _ _ (e2135 _ _ (e2126 _ _ (e2119 _ _ h2104)))))))))))))))) (ne_of_none (e2222 _ _ (e2211 _ _ (e2200 _ _ (e2188 _ _ (e2175 _ _ (e2168 _ _ (e2155 _ _ (e2148 _ _ (e2135 _ _ (e2126 _ _ (e2119 _ _ h2104))))))))))) n2243)))))))) n2403))))
                                    have h2473 := (e2422 _ _ h2419)
                                    have h2474 := (e2422 _ _ ((SameXs.of x2416) _ _ (e2408 _ _ (e2392 _ _ (e2373 _ _ (e2357 _ _ (e2350 _ _ (e2334 _ _ (e2311 _ _ (x2301 _ _ (e2289 _ _ (e2278 _ _ (e2267 _ _ (e2255 _ _ (e2236 _ _ h2229))))) (ne_of_none h2229 n2243))))))))) (ni1 (ne_of_none (e2392 _ _ (e2373 _ _ (e2357 _ _ (e2350 _ _ (e2334 _ _ (e2311 _ _ (x2301 _ _ (e2289 _ _ (e2278 _ _ (e2267 _ _ (e2255 _ _ (e2236 _ _ h2229))))) (ne_of_none h2229 n2243)))))))) n2403))))
                                    have h2475 := (e2422 _ _ ((SameXs.of x2416) _ _ (e2408 _ _ (e2392 _ _ (e2373 _ _ (e2357 _ _ (e2350 _ _ (e2334 _ _ h2326)))))) (ni1 (ne_of_none (e2392 _ _ (e2373 _ _ (e2357 _ _ (e2350 _ _ (e2334 _ _ h2326))))) n2403))))
                                    have h2476 := (e2422 _ _ ((SameXs.of x2416) _ _ (e2408 _ _ (e2392 _ _ (e2373 _ _ (e2357 _ _ (e2350 _ _ h2347))))) (ni1 (ne_of_none (e2392 _ _ (e2373 _ _ (e2357 _ _ (e2350 _ _ h2347)))) n2403))))
                                    have h2477 := (e2422 _ _ ((SameXs.of x2416) _ _ (e2408 _ _ (e2392 _ _ (e2373 _ _ (e2357 _ _ (e2350 _ _ h2341))))) (ni1 (ne_of_none (e2392 _ _ (e2373 _ _ (e2357 _ _ (e2350 _ _ h2341)))) n2403))))
                                    have h2478 := (e2422 _ _ ((SameXs.of x2416) _ _ (e2408 _ _ (e2392 _ _ (e2373 _ _ (e2357 _ _ (e2350 _ _ (e2334 _ _ (e2311 _ _ h2303))))))) (ni1 (ne_of_none (e2392 _ _ (e2373 _ _ (e2357 _ _ (e2350 _ _ (e2334 _ _ (e2311 _ _ h2303)))))) n2403))))
                                    exact ⟨_, _, rfl, (Same.refl _), (S2423.sub (all_cons (.tail _ (.tail _ (.tail _ (.tail _ (.tail _ (.tail _ (.tail _ (.tail _ (.tail _ (.tail _ (.tail _ (.tail _ (.tail _ (.tail _ (.tail _ (.tail _ (.tail _ (.tail _ (.tail _ (.tail _ (.tail _ (.tail _ (.tail _ (.tail _ (.tail _ (.head _)))))))))))))))))))))))))) (all_cons (.tail _ (.tail _ (.tail _ (.tail _ (.tail _ (.tail _ (.tail _ (.tail _ (.tail _ (.tail _ (.tail _ (.tail _ (.tail _ (.tail _ (.tail _ (.tail _ (.tail _ (.tail _ (.tail _ (.tail _ (.tail _ (.tail _ (.tail _ (.tail _ (.tail _ (.tail _ (.head _))))))))))))))))))))))))))) (all_cons (.tail _ (.tail _ (.tail _ (.tail _ (.tail _ (.tail _ (.tail _ (.tail _ (.tail _ (.tail _ (.tail _ (.tail _ (.tail _ (.tail _ (.tail _ (.tail _ (.tail _ (.tail _ (.tail _ (.tail _ (.tail _ (.tail _ (.tail _ (.tail _ (.tail _ (.tail _ (.tail _ (.head _)))))))))))))))))))))))))))) (all_cons (.tail _ (.tail _ (.tail _ (.tail _ (.tail _ (.tail _ (.tail _ (.tail _ (.tail _ (.tail _ (.tail _ (.tail _ (.tail _ (.tail _ (.tail _ (.tail _ (.tail _ (.tail _ (.tail _ (.tail _ (.tail _ (.tail _ (.tail _ (.tail _ (.tail _ (.tail _ (.tail _ (.tail _ (.head _))))))))))))))))))))))))))))) (all_cons (.tail _ (.tail _ (.tail _ (.tail _ (.tail _ (.tail _ (.tail _ (.tail _ (.tail _ (.tail _ (.tail _ (.tail _ (.tail _ (.tail _ (.tail _ (.tail _ (.tail _ (.tail _ (.tail _ (.tail _ (.tail _ (.tail _ (.tail _ (.tail _ (.tail _ (.tail _ (.tail _ (.tail _ (.tail _ (.head _)))))))))))))))))))))))))))))) (all_cons (.tail _ (.tail _ (.tail _ (.tail _ (.tail _ (.tail _ (.tail _ (.tail _ (.tail _ (.tail _ (.tail _ (.tail _ (.tail _ (.tail _ (.tail _ (.tail _ (.tail _ (.tail _ (.tail _ (.tail _ (.tail _ (.tail _ (.tail _ (.tail _ (.tail _ (.tail _ (.tail _ (.tail _ (.tail _ (.tail _ (.head _))))))))))))))))))))))))))))))) (all_cons (.tail _ (.tail _ (.tail _ (.tail _ (.tail _ (.tail _ (.tail _ (.tail _ (.tail _ (.tail _ (.tail _ (.tail _ (.tail _ (.tail _ (.tail _ (.tail _ (.tail _ (.tail _ (.tail _ (.tail _ (.tail _ (.tail _ (.tail _ (.tail _ (.head _))))))))))))))))))))))))) (all_cons (.tail _ (.tail _ (.tail _ (.tail _ (.tail _ (.tail _ (.tail _ (.tail _ (.tail _ (.tail _ (.tail _ (.tail _ (.tail _ (.tail _ (.tail _ (.tail _ (.tail _ (.tail _ (.head _))))))))))))))))))) (all_cons (.tail _ (.tail _ (.tail _ (.tail _ (.tail _ (.tail _ (.tail _ (.tail _ (.tail _ (.tail _ (.tail _ (.tail _ (.tail _ (.tail _ (.tail _ (.tail _ (.tail _ (.head _)))))))))))))))))) (all_cons (.tail _ (.tail _ (.tail _ (.tail _ (.tail _ (.tail _ (.tail _ (.tail _ (.tail _ (.tail _ (.tail _ (.tail _ (.tail _ (.head _)))))))))))))) all_nil))))))))))), h2469, h2470, h2471, h2472, h2473, h2474, h2475, h2476, h2477, h2478, hw⟩
                                · intro σ H2479 hw
                                  obtain ⟨u2430, G2491, rfl, eG2492, S2480, h2481, h2482, h2483, h2484, h2485, h2486, h2487, h2488, h2489, h2490, hw⟩ := hw
                                  unfold F_law_k2 at hw
                                  refine ⟨_, rfl, _, rfl, _, rfl, rfl, rfl, fun x2493 dx2494 n2495 n2496 n2497 => ?_⟩
                                  generalize g2498 : upd (upd H2479 dx2494 _) x2493 _ = H2499
                                  obtain ⟨e2500, h2501⟩ := gen_obj n2495 n2496 n2497 g2498
                                  have fr2502 := S2480.free n2495
                                  have S2503 := S2480.new n2495 e2500 h2501 fr2502
                                  have h2504 := (e2500 _ _ h2482)
                                  have h2505 := (e2500 _ _ h2483)
                                  refine ⟨G2491, _, _, _, _, _, _, v1928, _, _, _, rfl, S2503.sG, (S2503.gno (all_cons (.head _) all_nil)), h2501, ((hideL_out (ni1 (ne_of_none h2482 n2495))).trans h2504), ((hideL_out (ni1 (ne_of_none h2483 n2495))).trans h2505), cW_call hw (fun v2506 hw H2507 x2508 h2509 => ⟨rfl, ?_⟩) (fun e he => (hE e he).elim)⟩
                                  have S2510 : Sep _ _ _ _ H2507 [x2493, p1922, p1931, p1932, p1962, x1977, p2063, p2115, p2176, p2189, l2239] := Sep.init S2503 x2508 (.head _) h2509 [] all_nil
                                  refine ⟨_, rfl, _, _, _, _, _, rfl, h2509, T.cl_SliceHeader, T.n_SliceHeader_delta, rfl, _, _, rfl, rfl, _, rfl, ?_⟩
                                  refine iteB (fun c2511 => ?_) (fun c2511 => ?_)
                                  · have hw := cW_pos c2511 hw
                                    have h2512 := ((SameXs.of x2508) _ _ (e2500 _ _ h2485) (ni1 (ne_of_none h2485 n2495)))
                                    refine ⟨_, rfl, _, rfl, _, _, _, _, _, _, rfl, rfl, h2509, h2512, rfl, rfl, G2491, _, _, (⟨v2506.number, v2506.index, v2506.delta⟩ : St_SliceHeader), _, _, (⟨v1990.number, v1990.index, v1990.delta⟩ : St_SliceHeader), rfl, S2510.sG, (hide_nil h2509), (hide_nil h2512), cW_callN hw (fun v2513 hw H2514 e2515 => ?_) trivial⟩
                                    have S2516 := S2510.same e2515
                                    refine ⟨⟨_, rfl⟩, _, rfl, _, _, rfl, rfl, rfl, ?_⟩
                                    have hw := cW_ok hw
                                    exact eq_bl (k _) (hK0 _ hw).symm
                                  · have hw := cW_negB c2511 hw
                                    have hw := cW_ok hw
                                    exact eq_bl (k _) (hK0 _ hw).symm
end
def spL (K : PySem.W.Frag) : Sp := fun vs H Q _ => ∃ (a_script : Addr) (script : List Int), vs = [.ref a_script] ∧ SqL K H a_script (script.map V.int) ∧ script.length ≤ 63 ∧ ∀ H', Q (.bl true) H'
theorem all_mk {l : PySem.W.OpenLaw} {w : World} {K : PySem.W.Frag} {h : Heap} {mg : Str → Option Value} {fa : Addr} (X : K.In h) (G : h.Ns mainGlobals mg) (hfa : mg "law" = some (.ref fa))
    {f0 f1 f2 f3 f4 f5 f6 f7 f8 f9 f10 f11 f12 f13 f14 f15 f16 f17 f18 f19 f20 f21 f22 f23 f24 f25 f26 f27 f28 f29 f30 f31 f32 f33 f34 f35 f36 f37 f38 f39 f40 f41 f42 f43 CBitWriter CBitReader CFormat CSettings CPictureHeader CSliceHeader XBadFormat XOutOfRange XOutOfBits XBadOctets XBadHeader : Addr} {od0 an0 od1 an1 od2 an2 od3 an3 od4 an4 od5 an5 od6 an6 od7 an7 od8 an8 od9 an9 od10 an10 od11 an11 od12 an12 od13 an13 od14 an14 od15 an15 od16 an16 od17 an17 od18 an18 od19 an19 od20 an20 od21 an21 od22 an22 od23 an23 od24 an24 od25 an25 od26 an26 od27 an27 od28 an28 od29 an29 od30 an30 od31 an31 od32 an32 od33 an33 od34 an34 od35 an35 od36 an36 od37 an37 od38 an38 od39 an39 od40 an40 od41 an41 od42 an42 od43 an43 : Option Addr} {sl0 sl1 sl2 sl3 sl4 sl5 sl6 sl7 sl8 sl9 sl10 sl11 sl12 sl13 sl14 sl15 sl16 sl17 sl18 sl19 sl20 sl21 sl22 sl23 sl24 sl25 sl26 sl27 sl28 sl29 sl30 sl31 sl32 sl33 sl34 sl35 sl36 sl37 sl38 sl39 sl40 sl41 sl42 sl43 : Array (Option Value)} {oc0 kV0 dc0 pm0 cd0 ct0 oc1 kV1 dc1 pm1 cd1 ct1 oc2 kV2 dc2 pm2 cd2 ct2 oc3 dc3 pm3 cd3 ct3 oc4 kV4 dc4 pm4 cd4 ct4 oc5 dc5 pm5 cd5 ct5 oc6 kV6 dc6 pm6 cd6 ct6 oc7 kV7 dc7 pm7 cd7 ct7 oc8 kV8 dc8 pm8 cd8 ct8 oc9 dc9 pm9 cd9 ct9 oc10 kV10 dc10 pm10 cd10 ct10 oc11 kV11 dc11 pm11 cd11 ct11 oc12 kV12 dc12 pm12 cd12 ct12 oc13 kV13 dc13 pm13 cd13 ct13 oc14 kV14 dc14 pm14 cd14 ct14 oc15 kV15 dc15 pm15 cd15 ct15 oc16 kV16 dc16 pm16 cd16 ct16 oc17 kV17 dc17 pm17 cd17 ct17 oc18 kV18 dc18 pm18 cd18 ct18 oc19 kV19 dc19 pm19 cd19 ct19 oc20 kV20 dc20 pm20 cd20 ct20 oc21 kV21 dc21 pm21 cd21 ct21 oc22 kV22 dc22 pm22 cd22 ct22 oc23 kV23 dc23 pm23 cd23 ct23 oc24 kV24 dc24 pm24 cd24 ct24 oc25 kV25 dc25 pm25 cd25 ct25 oc26 kV26 dc26 pm26 cd26 ct26 oc27 kV27 dc27 pm27 cd27 ct27 oc28 kV28 dc28 pm28 cd28 ct28 oc29 kV29 dc29 pm29 cd29 ct29 oc30 kV30 dc30 pm30 cd30 ct30 oc31 kV31 dc31 pm31 cd31 ct31 oc32 kV32 dc32 pm32 cd32 ct32 oc33 kV33 dc33 pm33 cd33 ct33 oc34 kV34 dc34 pm34 cd34 ct34 oc35 kV35 dc35 pm35 cd35 ct35 oc36 kV36 dc36 pm36 cd36 ct36 oc37 kV37 dc37 pm37 cd37 ct37 oc38 kV38 dc38 pm38 cd38 ct38 oc39 kV39 dc39 pm39 cd39 ct39 oc40 kV40 dc40 pm40 cd40 ct40 oc41 dc41 pm41 cd41 ct41 oc42 kV42 dc42 pm42 cd42 ct42 oc43 kV43 dc43 pm43 cd43 ct43 : Value} {D3 : Addr} {ktk3_0 : Tok} {ktk3_1 : Tok} {D5 : Addr} {ktk5_0 : Tok} {ktk5_1 : Tok} {ktk5_4 : Tok} {D9 : Addr} {ktk9_0 : Tok} {q26 : Addr} {rs26 : List Value} {D41 : Addr} {ktk41_0 : Tok} {ktk41_1 : Tok} {ktk41_4 : Tok} {ktk41_5 : Tok} {ktk41_7 : Tok} {TG_KINDS : Addr} {td18 : Option Addr} {tn18 : Nat} {tsl18 : Array (Option Value)} {tk18_0 tk18_1 tk18_2 : Tok} {TG_REF_COUNTS : Addr} {tn22 : Nat} {tk22_0 tk22_1 tk22_2 : Tok} {th22_0 th22_1 th22_2 : Int} {TG_REF_COUNTS_2 : Addr} {td22_2 : Option Addr} {tn22_2 : Nat} {tsl22_2 : Array (Option Value)} {tk22_2_0 : Tok} {TG_REF_COUNTS_1 : Addr} {td22_1 : Option Addr} {tn22_1 : Nat} {tsl22_1 : Array (Option Value)} {tk22_1_0 tk22_1_1 : Tok} {TG_REF_COUNTS_0 : Addr} {td22_0 : Option Addr} {tn22_0 : Nat} {tsl22_0 : Array (Option Value)} {tk22_0_0 : Tok} {TD_PictureHeader___init___store : Addr} {tddPictureHeader___init___store : Option Addr} {tdnPictureHeader___init___store : Nat} {tdsPictureHeader___init___store : Array (Option Value)} {TD_PictureHeader___init___refs : Addr} {tddPictureHeader___init___refs : Option Addr} {tdnPictureHeader___init___refs : Nat} {tdsPictureHeader___init___refs : Array (Option Value)} {tk3 tk4 tk5 tk11 tk12 tk13 tk14 tk15 tk19 : Tok}
    (wBitWriter : PySem.W.nsIn K mainGlobals "BitWriter" = some (some (.ref CBitWriter))) (wBitReader : PySem.W.nsIn K mainGlobals "BitReader" = some (some (.ref CBitReader))) (wFormat : PySem.W.nsIn K mainGlobals "Format" = some (some (.ref CFormat))) (wSettings : PySem.W.nsIn K mainGlobals "Settings" = some (some (.ref CSettings))) (wPictureHeader : PySem.W.nsIn K mainGlobals "PictureHeader" = some (some (.ref CPictureHeader))) (wSliceHeader : PySem.W.nsIn K mainGlobals "SliceHeader" = some (some (.ref CSliceHeader))) (vBadFormat : PySem.W.nsIn K mainGlobals "BadFormat" = some (some (.ref XBadFormat))) (vOutOfRange : PySem.W.nsIn K mainGlobals "OutOfRange" = some (some (.ref XOutOfRange))) (vOutOfBits : PySem.W.nsIn K mainGlobals "OutOfBits" = some (some (.ref XOutOfBits))) (vBadOctets : PySem.W.nsIn K mainGlobals "BadOctets" = some (some (.ref XBadOctets))) (vBadHeader : PySem.W.nsIn K mainGlobals "BadHeader" = some (some (.ref XBadHeader))) (a0 : PySem.W.nsIn K mainGlobals "_law_draws" = some (some (.ref f0))) (l0 : K.lookup f0 = some ⟨oc0, od0, .func (PySem.W.fnOf "_law_draws" "_law_draws" (defArgs s__law_draws) (defBody s__law_draws) (defScope s__law_draws) .none kV0 dc0 pm0 an0 cd0 ct0), sl0⟩) (c0 : PySem.W.codeIn K cd0 "_law_draws" = true) (k0 : PySem.W.keepIn K (.ref f0) = true) (a1 : PySem.W.nsIn K mainGlobals "_law_between" = some (some (.ref f1))) (l1 : K.lookup f1 = some ⟨oc1, od1, .func (PySem.W.fnOf "_law_between" "_law_between" (defArgs s__law_between) (defBody s__law_between) (defScope s__law_between) .none kV1 dc1 pm1 an1 cd1 ct1), sl1⟩) (c1 : PySem.W.codeIn K cd1 "_law_between" = true) (k1 : PySem.W.keepIn K (.ref f1) = true) (a2 : PySem.W.nsIn K mainGlobals "_law_numbers" = some (some (.ref f2))) (l2 : K.lookup f2 = some ⟨oc2, od2, .func (PySem.W.fnOf "_law_numbers" "_law_numbers" (defArgs s__law_numbers) (defBody s__law_numbers) (defScope s__law_numbers) .none kV2 dc2 pm2 an2 cd2 ct2), sl2⟩) (c2 : PySem.W.codeIn K cd2 "_law_numbers" = true) (k2 : PySem.W.keepIn K (.ref f2) = true) (a3 : PySem.W.findIn K (.ref CFormat) "__init__" = some (some (.ref f3))) (b3 : PySem.W.isFn K (.ref f3) = true) (d3 : PySem.W.makesIn K CFormat = true) (e3 : PySem.W.keepIn K (.ref CFormat) = true) (l3 : K.lookup f3 = some ⟨oc3, od3, .func (PySem.W.fnOf "__init__" "Format.__init__" (defArgs s_Format___init__) (defBody s_Format___init__) (defScope s_Format___init__) .none (.ref D3) dc3 pm3 an3 cd3 ct3), sl3⟩) (c3 : PySem.W.codeIn K cd3 "Format.__init__" = true) (k3 : PySem.W.keepIn K (.ref f3) = true) (kd3_0 : PySem.W.nsIn K D3 "depth" = some (some (.int 8 ktk3_0))) (kd3_1 : PySem.W.nsIn K D3 "chroma" = some (some (.int 0 ktk3_1))) (a4 : PySem.W.nsIn K mainGlobals "_require" = some (some (.ref f4))) (l4 : K.lookup f4 = some ⟨oc4, od4, .func (PySem.W.fnOf "_require" "_require" (defArgs s__require) (defBody s__require) (defScope s__require) .none kV4 dc4 pm4 an4 cd4 ct4), sl4⟩) (c4 : PySem.W.codeIn K cd4 "_require" = true) (k4 : PySem.W.keepIn K (.ref f4) = true) (a5 : PySem.W.findIn K (.ref CSettings) "__init__" = some (some (.ref f5))) (b5 : PySem.W.isFn K (.ref f5) = true) (d5 : PySem.W.makesIn K CSettings = true) (e5 : PySem.W.keepIn K (.ref CSettings) = true) (l5 : K.lookup f5 = some ⟨oc5, od5, .func (PySem.W.fnOf "__init__" "Settings.__init__" (defArgs s_Settings___init__) (defBody s_Settings___init__) (defScope s_Settings___init__) .none (.ref D5) dc5 pm5 an5 cd5 ct5), sl5⟩) (c5 : PySem.W.codeIn K cd5 "Settings.__init__" = true) (k5 : PySem.W.keepIn K (.ref f5) = true) (kd5_0 : PySem.W.nsIn K D5 "slots" = some (some (.int 1 ktk5_0))) (kd5_1 : PySem.W.nsIn K D5 "rows" = some (some (.int 1 ktk5_1))) (kd5_2 : PySem.W.nsIn K D5 "deblock" = some (some (.bool false))) (kd5_3 : PySem.W.nsIn K D5 "offset" = some (some (.bool false))) (kd5_4 : PySem.W.nsIn K D5 "layers" = some (some (.int 1 ktk5_4))) (a6 : PySem.W.nsIn K mainGlobals "_law_settings" = some (some (.ref f6))) (l6 : K.lookup f6 = some ⟨oc6, od6, .func (PySem.W.fnOf "_law_settings" "_law_settings" (defArgs s__law_settings) (defBody s__law_settings) (defScope s__law_settings) .none kV6 dc6 pm6 an6 cd6 ct6), sl6⟩) (c6 : PySem.W.codeIn K cd6 "_law_settings" = true) (k6 : PySem.W.keepIn K (.ref f6) = true) (a7 : PySem.W.findIn K (.ref CFormat) "blocks" = some (some (.ref f7))) (b7 : PySem.W.isFn K (.ref f7) = true) (l7 : K.lookup f7 = some ⟨oc7, od7, .func (PySem.W.fnOf "blocks" "Format.blocks" (defArgs s_Format_blocks) (defBody s_Format_blocks) (defScope s_Format_blocks) .none kV7 dc7 pm7 an7 cd7 ct7), sl7⟩) (c7 : PySem.W.codeIn K cd7 "Format.blocks" = true) (k7 : PySem.W.keepIn K (.ref f7) = true) (a8 : PySem.W.findIn K (.ref CSettings) "slices" = some (some (.ref f8))) (b8 : PySem.W.isFn K (.ref f8) = true) (l8 : K.lookup f8 = some ⟨oc8, od8, .func (PySem.W.fnOf "slices" "Settings.slices" (defArgs s_Settings_slices) (defBody s_Settings_slices) (defScope s_Settings_slices) .none kV8 dc8 pm8 an8 cd8 ct8), sl8⟩) (c8 : PySem.W.codeIn K cd8 "Settings.slices" = true) (k8 : PySem.W.keepIn K (.ref f8) = true) (a9 : PySem.W.findIn K (.ref CSliceHeader) "__init__" = some (some (.ref f9))) (b9 : PySem.W.isFn K (.ref f9) = true) (d9 : PySem.W.makesIn K CSliceHeader = true) (e9 : PySem.W.keepIn K (.ref CSliceHeader) = true) (l9 : K.lookup f9 = some ⟨oc9, od9, .func (PySem.W.fnOf "__init__" "SliceHeader.__init__" (defArgs s_SliceHeader___init__) (defBody s_SliceHeader___init__) (defScope s_SliceHeader___init__) .none (.ref D9) dc9 pm9 an9 cd9 ct9), sl9⟩) (c9 : PySem.W.codeIn K cd9 "SliceHeader.__init__" = true) (k9 : PySem.W.keepIn K (.ref f9) = true) (kd9_0 : PySem.W.nsIn K D9 "delta" = some (some (.int 0 ktk9_0))) (a10 : PySem.W.findIn K (.ref CSliceHeader) "__eq__" = some (some (.ref f10))) (b10 : PySem.W.isFn K (.ref f10) = true) (l10 : K.lookup f10 = some ⟨oc10, od10, .func (PySem.W.fnOf "__eq__" "SliceHeader.__eq__" (defArgs s_SliceHeader___eq__) (defBody s_SliceHeader___eq__) (defScope s_SliceHeader___eq__) .none kV10 dc10 pm10 an10 cd10 ct10), sl10⟩) (c10 : PySem.W.codeIn K cd10 "SliceHeader.__eq__" = true) (k10 : PySem.W.keepIn K (.ref f10) = true) (a11 : PySem.W.nsIn K mainGlobals "_law_packed" = some (some (.ref f11))) (l11 : K.lookup f11 = some ⟨oc11, od11, .func (PySem.W.fnOf "_law_packed" "_law_packed" (defArgs s__law_packed) (defBody s__law_packed) (defScope s__law_packed) .none kV11 dc11 pm11 an11 cd11 ct11), sl11⟩) (c11 : PySem.W.codeIn K cd11 "_law_packed" = true) (k11 : PySem.W.keepIn K (.ref f11) = true) (a12 : PySem.W.findIn K (.ref CBitWriter) "__init__" = some (some (.ref f12))) (b12 : PySem.W.isFn K (.ref f12) = true) (d12 : PySem.W.makesIn K CBitWriter = true) (e12 : PySem.W.keepIn K (.ref CBitWriter) = true) (l12 : K.lookup f12 = some ⟨oc12, od12, .func (PySem.W.fnOf "__init__" "BitWriter.__init__" (defArgs s_BitWriter___init__) (defBody s_BitWriter___init__) (defScope s_BitWriter___init__) .none kV12 dc12 pm12 an12 cd12 ct12), sl12⟩) (c12 : PySem.W.codeIn K cd12 "BitWriter.__init__" = true) (k12 : PySem.W.keepIn K (.ref f12) = true) (a13 : PySem.W.findIn K (.ref CBitWriter) "_add" = some (some (.ref f13))) (b13 : PySem.W.isFn K (.ref f13) = true) (l13 : K.lookup f13 = some ⟨oc13, od13, .func (PySem.W.fnOf "_add" "BitWriter._add" (defArgs s_BitWriter__add) (defBody s_BitWriter__add) (defScope s_BitWriter__add) .none kV13 dc13 pm13 an13 cd13 ct13), sl13⟩) (c13 : PySem.W.codeIn K cd13 "BitWriter._add" = true) (k13 : PySem.W.keepIn K (.ref f13) = true) (a14 : PySem.W.findIn K (.ref CBitWriter) "put_ue" = some (some (.ref f14))) (b14 : PySem.W.isFn K (.ref f14) = true) (l14 : K.lookup f14 = some ⟨oc14, od14, .func (PySem.W.fnOf "put_ue" "BitWriter.put_ue" (defArgs s_BitWriter_put_ue) (defBody s_BitWriter_put_ue) (defScope s_BitWriter_put_ue) .none kV14 dc14 pm14 an14 cd14 ct14), sl14⟩) (c14 : PySem.W.codeIn K cd14 "BitWriter.put_ue" = true) (k14 : PySem.W.keepIn K (.ref f14) = true) (a15 : PySem.W.findIn K (.ref CBitWriter) "put_se" = some (some (.ref f15))) (b15 : PySem.W.isFn K (.ref f15) = true) (l15 : K.lookup f15 = some ⟨oc15, od15, .func (PySem.W.fnOf "put_se" "BitWriter.put_se" (defArgs s_BitWriter_put_se) (defBody s_BitWriter_put_se) (defScope s_BitWriter_put_se) .none kV15 dc15 pm15 an15 cd15 ct15), sl15⟩) (c15 : PySem.W.codeIn K cd15 "BitWriter.put_se" = true) (k15 : PySem.W.keepIn K (.ref f15) = true) (a16 : PySem.W.findIn K (.ref CBitWriter) "octets" = some (some (.ref f16))) (b16 : PySem.W.isFn K (.ref f16) = true) (l16 : K.lookup f16 = some ⟨oc16, od16, .func (PySem.W.fnOf "octets" "BitWriter.octets" (defArgs s_BitWriter_octets) (defBody s_BitWriter_octets) (defScope s_BitWriter_octets) .none kV16 dc16 pm16 an16 cd16 ct16), sl16⟩) (c16 : PySem.W.codeIn K cd16 "BitWriter.octets" = true) (k16 : PySem.W.keepIn K (.ref f16) = true) (a17 : PySem.W.nsIn K mainGlobals "write_slice" = some (some (.ref f17))) (l17 : K.lookup f17 = some ⟨oc17, od17, .func (PySem.W.fnOf "write_slice" "write_slice" (defArgs s_write_slice) (defBody s_write_slice) (defScope s_write_slice) .none kV17 dc17 pm17 an17 cd17 ct17), sl17⟩) (c17 : PySem.W.codeIn K cd17 "write_slice" = true) (k17 : PySem.W.keepIn K (.ref f17) = true) (a18 : PySem.W.nsIn K mainGlobals "_last_bit" = some (some (.ref f18))) (l18 : K.lookup f18 = some ⟨oc18, od18, .func (PySem.W.fnOf "_last_bit" "_last_bit" (defArgs s__last_bit) (defBody s__last_bit) (defScope s__last_bit) .none kV18 dc18 pm18 an18 cd18 ct18), sl18⟩) (c18 : PySem.W.codeIn K cd18 "_last_bit" = true) (k18 : PySem.W.keepIn K (.ref f18) = true) (a19 : PySem.W.findIn K (.ref CBitReader) "__init__" = some (some (.ref f19))) (b19 : PySem.W.isFn K (.ref f19) = true) (d19 : PySem.W.makesIn K CBitReader = true) (e19 : PySem.W.keepIn K (.ref CBitReader) = true) (l19 : K.lookup f19 = some ⟨oc19, od19, .func (PySem.W.fnOf "__init__" "BitReader.__init__" (defArgs s_BitReader___init__) (defBody s_BitReader___init__) (defScope s_BitReader___init__) .none kV19 dc19 pm19 an19 cd19 ct19), sl19⟩) (c19 : PySem.W.codeIn K cd19 "BitReader.__init__" = true) (k19 : PySem.W.keepIn K (.ref f19) = true) (a20 : PySem.W.findIn K (.ref CBitReader) "_look" = some (some (.ref f20))) (b20 : PySem.W.isFn K (.ref f20) = true) (l20 : K.lookup f20 = some ⟨oc20, od20, .func (PySem.W.fnOf "_look" "BitReader._look" (defArgs s_BitReader__look) (defBody s_BitReader__look) (defScope s_BitReader__look) .none kV20 dc20 pm20 an20 cd20 ct20), sl20⟩) (c20 : PySem.W.codeIn K cd20 "BitReader._look" = true) (k20 : PySem.W.keepIn K (.ref f20) = true) (a21 : PySem.W.findIn K (.ref CBitReader) "_zeros" = some (some (.ref f21))) (b21 : PySem.W.isFn K (.ref f21) = true) (l21 : K.lookup f21 = some ⟨oc21, od21, .func (PySem.W.fnOf "_zeros" "BitReader._zeros" (defArgs s_BitReader__zeros) (defBody s_BitReader__zeros) (defScope s_BitReader__zeros) .none kV21 dc21 pm21 an21 cd21 ct21), sl21⟩) (c21 : PySem.W.codeIn K cd21 "BitReader._zeros" = true) (k21 : PySem.W.keepIn K (.ref f21) = true) (a22 : PySem.W.findIn K (.ref CBitReader) "_take" = some (some (.ref f22))) (b22 : PySem.W.isFn K (.ref f22) = true) (l22 : K.lookup f22 = some ⟨oc22, od22, .func (PySem.W.fnOf "_take" "BitReader._take" (defArgs s_BitReader__take) (defBody s_BitReader__take) (defScope s_BitReader__take) .none kV22 dc22 pm22 an22 cd22 ct22), sl22⟩) (c22 : PySem.W.codeIn K cd22 "BitReader._take" = true) (k22 : PySem.W.keepIn K (.ref f22) = true) (a23 : PySem.W.findIn K (.ref CBitReader) "get_ue" = some (some (.ref f23))) (b23 : PySem.W.isFn K (.ref f23) = true) (l23 : K.lookup f23 = some ⟨oc23, od23, .func (PySem.W.fnOf "get_ue" "BitReader.get_ue" (defArgs s_BitReader_get_ue) (defBody s_BitReader_get_ue) (defScope s_BitReader_get_ue) .none kV23 dc23 pm23 an23 cd23 ct23), sl23⟩) (c23 : PySem.W.codeIn K cd23 "BitReader.get_ue" = true) (k23 : PySem.W.keepIn K (.ref f23) = true) (a24 : PySem.W.findIn K (.ref CBitReader) "get_se" = some (some (.ref f24))) (b24 : PySem.W.isFn K (.ref f24) = true) (l24 : K.lookup f24 = some ⟨oc24, od24, .func (PySem.W.fnOf "get_se" "BitReader.get_se" (defArgs s_BitReader_get_se) (defBody s_BitReader_get_se) (defScope s_BitReader_get_se) .none kV24 dc24 pm24 an24 cd24 ct24), sl24⟩) (c24 : PySem.W.codeIn K cd24 "BitReader.get_se" = true) (k24 : PySem.W.keepIn K (.ref f24) = true) (a25 : PySem.W.nsIn K mainGlobals "_get_slice" = some (some (.ref f25))) (l25 : K.lookup f25 = some ⟨oc25, od25, .func (PySem.W.fnOf "_get_slice" "_get_slice" (defArgs s__get_slice) (defBody s__get_slice) (defScope s__get_slice) .none kV25 dc25 pm25 an25 cd25 ct25), sl25⟩) (c25 : PySem.W.codeIn K cd25 "_get_slice" = true) (k25 : PySem.W.keepIn K (.ref f25) = true) (a26 : PySem.W.findIn K (.ref CBitReader) "left" = some (some (.ref q26))) (b26 : PySem.W.specialIn K (.ref q26) "__get__" = some (some (.builtin "property.__get__"))) (d26 : PySem.W.takesIn K (.ref q26) = some true) (e26 : PySem.W.recIn K q26 "property" = some (.ref f26 :: rs26)) (l26 : K.lookup f26 = some ⟨oc26, od26, .func (PySem.W.fnOf "left" "BitReader.left" (defArgs s_BitReader_left) (defBody s_BitReader_left) (defScope s_BitReader_left) .none kV26 dc26 pm26 an26 cd26 ct26), sl26⟩) (c26 : PySem.W.codeIn K cd26 "BitReader.left" = true) (k26 : PySem.W.keepIn K (.ref f26) = true) (a27 : PySem.W.nsIn K mainGlobals "read_slice" = some (some (.ref f27))) (l27 : K.lookup f27 = some ⟨oc27, od27, .func (PySem.W.fnOf "read_slice" "read_slice" (defArgs s_read_slice) (defBody s_read_slice) (defScope s_read_slice) .none kV27 dc27 pm27 an27 cd27 ct27), sl27⟩) (c27 : PySem.W.codeIn K cd27 "read_slice" = true) (k27 : PySem.W.keepIn K (.ref f27) = true) (a28 : PySem.W.nsIn K mainGlobals "_law_picture" = some (some (.ref f28))) (l28 : K.lookup f28 = some ⟨oc28, od28, .func (PySem.W.fnOf "_law_picture" "_law_picture" (defArgs s__law_picture) (defBody s__law_picture) (defScope s__law_picture) .none kV28 dc28 pm28 an28 cd28 ct28), sl28⟩) (c28 : PySem.W.codeIn K cd28 "_law_picture" = true) (k28 : PySem.W.keepIn K (.ref f28) = true) (a29 : PySem.W.nsIn K mainGlobals "_law_cell" = some (some (.ref f29))) (l29 : K.lookup f29 = some ⟨oc29, od29, .func (PySem.W.fnOf "_law_cell" "_law_cell" (defArgs s__law_cell) (defBody s__law_cell) (defScope s__law_cell) .none kV29 dc29 pm29 an29 cd29 ct29), sl29⟩) (c29 : PySem.W.codeIn K cd29 "_law_cell" = true) (k29 : PySem.W.keepIn K (.ref f29) = true) (a30 : PySem.W.nsIn K mainGlobals "escape" = some (some (.ref f30))) (l30 : K.lookup f30 = some ⟨oc30, od30, .func (PySem.W.fnOf "escape" "escape" (defArgs s_escape) (defBody s_escape) (defScope s_escape) .none kV30 dc30 pm30 an30 cd30 ct30), sl30⟩) (c30 : PySem.W.codeIn K cd30 "escape" = true) (k30 : PySem.W.keepIn K (.ref f30) = true) (a31 : PySem.W.nsIn K mainGlobals "write_unit" = some (some (.ref f31))) (l31 : K.lookup f31 = some ⟨oc31, od31, .func (PySem.W.fnOf "write_unit" "write_unit" (defArgs s_write_unit) (defBody s_write_unit) (defScope s_write_unit) .none kV31 dc31 pm31 an31 cd31 ct31), sl31⟩) (c31 : PySem.W.codeIn K cd31 "write_unit" = true) (k31 : PySem.W.keepIn K (.ref f31) = true) (a32 : PySem.W.nsIn K mainGlobals "_law_long" = some (some (.ref f32))) (l32 : K.lookup f32 = some ⟨oc32, od32, .func (PySem.W.fnOf "_law_long" "_law_long" (defArgs s__law_long) (defBody s__law_long) (defScope s__law_long) .none kV32 dc32 pm32 an32 cd32 ct32), sl32⟩) (c32 : PySem.W.codeIn K cd32 "_law_long" = true) (k32 : PySem.W.keepIn K (.ref f32) = true) (a33 : PySem.W.nsIn K mainGlobals "clip" = some (some (.ref f33))) (l33 : K.lookup f33 = some ⟨oc33, od33, .func (PySem.W.fnOf "clip" "clip" (defArgs s_clip) (defBody s_clip) (defScope s_clip) .none kV33 dc33 pm33 an33 cd33 ct33), sl33⟩) (c33 : PySem.W.codeIn K cd33 "clip" = true) (k33 : PySem.W.keepIn K (.ref f33) = true) (a34 : PySem.W.nsIn K mainGlobals "level_with" = some (some (.ref f34))) (l34 : K.lookup f34 = some ⟨oc34, od34, .func (PySem.W.fnOf "level_with" "level_with" (defArgs s_level_with) (defBody s_level_with) (defScope s_level_with) .none kV34 dc34 pm34 an34 cd34 ct34), sl34⟩) (c34 : PySem.W.codeIn K cd34 "level_with" = true) (k34 : PySem.W.keepIn K (.ref f34) = true) (a35 : PySem.W.nsIn K mainGlobals "slice_level" = some (some (.ref f35))) (l35 : K.lookup f35 = some ⟨oc35, od35, .func (PySem.W.fnOf "slice_level" "slice_level" (defArgs s_slice_level) (defBody s_slice_level) (defScope s_slice_level) .none kV35 dc35 pm35 an35 cd35 ct35), sl35⟩) (c35 : PySem.W.codeIn K cd35 "slice_level" = true) (k35 : PySem.W.keepIn K (.ref f35) = true) (a36 : PySem.W.nsIn K mainGlobals "_law_bits" = some (some (.ref f36))) (l36 : K.lookup f36 = some ⟨oc36, od36, .func (PySem.W.fnOf "_law_bits" "_law_bits" (defArgs s__law_bits) (defBody s__law_bits) (defScope s__law_bits) .none kV36 dc36 pm36 an36 cd36 ct36), sl36⟩) (c36 : PySem.W.codeIn K cd36 "_law_bits" = true) (k36 : PySem.W.keepIn K (.ref f36) = true) (a37 : PySem.W.nsIn K mainGlobals "_law_ue" = some (some (.ref f37))) (l37 : K.lookup f37 = some ⟨oc37, od37, .func (PySem.W.fnOf "_law_ue" "_law_ue" (defArgs s__law_ue) (defBody s__law_ue) (defScope s__law_ue) .none kV37 dc37 pm37 an37 cd37 ct37), sl37⟩) (c37 : PySem.W.codeIn K cd37 "_law_ue" = true) (k37 : PySem.W.keepIn K (.ref f37) = true) (a38 : PySem.W.nsIn K mainGlobals "_law_se" = some (some (.ref f38))) (l38 : K.lookup f38 = some ⟨oc38, od38, .func (PySem.W.fnOf "_law_se" "_law_se" (defArgs s__law_se) (defBody s__law_se) (defScope s__law_se) .none kV38 dc38 pm38 an38 cd38 ct38), sl38⟩) (c38 : PySem.W.codeIn K cd38 "_law_se" = true) (k38 : PySem.W.keepIn K (.ref f38) = true) (a39 : PySem.W.nsIn K mainGlobals "_check_numbers" = some (some (.ref f39))) (l39 : K.lookup f39 = some ⟨oc39, od39, .func (PySem.W.fnOf "_check_numbers" "_check_numbers" (defArgs s__check_numbers) (defBody s__check_numbers) (defScope s__check_numbers) .none kV39 dc39 pm39 an39 cd39 ct39), sl39⟩) (c39 : PySem.W.codeIn K cd39 "_check_numbers" = true) (k39 : PySem.W.keepIn K (.ref f39) = true) (a40 : PySem.W.nsIn K mainGlobals "_check_slots" = some (some (.ref f40))) (l40 : K.lookup f40 = some ⟨oc40, od40, .func (PySem.W.fnOf "_check_slots" "_check_slots" (defArgs s__check_slots) (defBody s__check_slots) (defScope s__check_slots) .none kV40 dc40 pm40 an40 cd40 ct40), sl40⟩) (c40 : PySem.W.codeIn K cd40 "_check_slots" = true) (k40 : PySem.W.keepIn K (.ref f40) = true) (a41 : PySem.W.findIn K (.ref CPictureHeader) "__init__" = some (some (.ref f41))) (b41 : PySem.W.isFn K (.ref f41) = true) (d41 : PySem.W.makesIn K CPictureHeader = true) (e41 : PySem.W.keepIn K (.ref CPictureHeader) = true) (l41 : K.lookup f41 = some ⟨oc41, od41, .func (PySem.W.fnOf "__init__" "PictureHeader.__init__" (defArgs s_PictureHeader___init__) (defBody s_PictureHeader___init__) (defScope s_PictureHeader___init__) .none (.ref D41) dc41 pm41 an41 cd41 ct41), sl41⟩) (c41 : PySem.W.codeIn K cd41 "PictureHeader.__init__" = true) (k41 : PySem.W.keepIn K (.ref f41) = true) (kd41_0 : PySem.W.nsIn K D41 "kind" = some (some (.str "I" ktk41_0))) (kd41_1 : PySem.W.nsIn K D41 "level" = some (some (.int 0 ktk41_1))) (kd41_2 : PySem.W.nsIn K D41 "store" = some (some (.ref TD_PictureHeader___init___store))) (kd41_3 : PySem.W.nsIn K D41 "refs" = some (some (.ref TD_PictureHeader___init___refs))) (kd41_4 : PySem.W.nsIn K D41 "weight" = some (some (.int 8 ktk41_4))) (kd41_5 : PySem.W.nsIn K D41 "layer" = some (some (.int 0 ktk41_5))) (kd41_6 : PySem.W.nsIn K D41 "shown" = some (some (.bool true))) (kd41_7 : PySem.W.nsIn K D41 "edge" = some (some (.int 0 ktk41_7))) (a42 : PySem.W.nsIn K mainGlobals "_law_header" = some (some (.ref f42))) (l42 : K.lookup f42 = some ⟨oc42, od42, .func (PySem.W.fnOf "_law_header" "_law_header" (defArgs s__law_header) (defBody s__law_header) (defScope s__law_header) .none kV42 dc42 pm42 an42 cd42 ct42), sl42⟩) (c42 : PySem.W.codeIn K cd42 "_law_header" = true) (k42 : PySem.W.keepIn K (.ref f42) = true) (a43 : PySem.W.nsIn K mainGlobals "law" = some (some (.ref f43))) (l43 : K.lookup f43 = some ⟨oc43, od43, .func (PySem.W.fnOf "law" "law" (defArgs s_law) (defBody s_law) (defScope s_law) .none kV43 dc43 pm43 an43 cd43 ct43), sl43⟩) (c43 : PySem.W.codeIn K cd43 "law" = true) (k43 : PySem.W.keepIn K (.ref f43) = true)
    (z0 : PySem.W.nsIn K mainGlobals "abs" = some none) (z1 : PySem.W.nsIn K mainGlobals "int" = some none) (z2 : PySem.W.nsIn K mainGlobals "min" = some none) (z3 : PySem.W.nsIn K mainGlobals "BLOCK" = some (some (.int 8 tk3))) (z4 : PySem.W.nsIn K mainGlobals "GREATEST_NUMBER" = some (some (.int 999 tk4))) (z5 : PySem.W.nsIn K mainGlobals "GREATEST_LEVEL" = some (some (.int 31 tk5))) (z6 : PySem.W.nsIn K mainGlobals "isinstance" = some none) (z7 : PySem.W.nsIn K mainGlobals "len" = some none) (z8 : PySem.W.nsIn K mainGlobals "range" = some none) (z9 : PySem.W.nsIn K mainGlobals "sum" = some none) (z10 : PySem.W.nsIn K mainGlobals "list" = some none) (z11 : PySem.W.nsIn K mainGlobals "MOST_ZEROS" = some (some (.int 32 tk11))) (z12 : PySem.W.nsIn K mainGlobals "ESCAPE" = some (some (.int 3 tk12))) (z13 : PySem.W.nsIn K mainGlobals "GREATEST_KIND" = some (some (.int 31 tk13))) (z14 : PySem.W.nsIn K mainGlobals "MOST_OCTETS" = some (some (.int 65536 tk14))) (z15 : PySem.W.nsIn K mainGlobals "STOP" = some (some (.int 128 tk15))) (z16 : PySem.W.nsIn K mainGlobals "ValueError" = some none) (z17 : PySem.W.nsIn K mainGlobals "max" = some none) (z18 : PySem.W.nsIn K mainGlobals "KINDS" = some (some (.ref TG_KINDS))) (y18 : K.lookup TG_KINDS = some ⟨.type "tuple", td18, .seq #[.str "I" tk18_0, .str "P" tk18_1, .str "B" tk18_2] tn18, tsl18⟩) (z19 : PySem.W.nsIn K mainGlobals "EVEN_WEIGHT" = some (some (.int 8 tk19))) (z20 : PySem.W.nsIn K mainGlobals "sorted" = some none) (z21 : PySem.W.nsIn K mainGlobals "set" = some none) (z22 : PySem.W.nsIn K mainGlobals "REF_COUNTS" = some (some (.ref TG_REF_COUNTS))) (y22 : K.lookup TG_REF_COUNTS = some ⟨.type "dict", none, .dict #[⟨th22_0, .str "I" tk22_0, .ref TG_REF_COUNTS_0⟩, ⟨th22_1, .str "P" tk22_1, .ref TG_REF_COUNTS_1⟩, ⟨th22_2, .str "B" tk22_2, .ref TG_REF_COUNTS_2⟩] tn22, #[]⟩) (u22_0 : th22_0 = PyData.keyHash w.params "I") (u22_1 : th22_1 = PyData.keyHash w.params "P") (u22_2 : th22_2 = PyData.keyHash w.params "B") (y22_2 : K.lookup TG_REF_COUNTS_2 = some ⟨.type "tuple", td22_2, .seq #[.int 2 tk22_2_0] tn22_2, tsl22_2⟩) (y22_1 : K.lookup TG_REF_COUNTS_1 = some ⟨.type "tuple", td22_1, .seq #[.int 1 tk22_1_0, .int 2 tk22_1_1] tn22_1, tsl22_1⟩) (y22_0 : K.lookup TG_REF_COUNTS_0 = some ⟨.type "tuple", td22_0, .seq #[.int 0 tk22_0_0] tn22_0, tsl22_0⟩) (z23 : PySem.W.nsIn K mainGlobals "tuple" = some none) (ytPictureHeader___init___store : K.lookup TD_PictureHeader___init___store = some ⟨.type "tuple", tddPictureHeader___init___store, .seq #[] tdnPictureHeader___init___store, tdsPictureHeader___init___store⟩) (ytPictureHeader___init___refs : K.lookup TD_PictureHeader___init___refs = some ⟨.type "tuple", tddPictureHeader___init___refs, .seq #[] tdnPictureHeader___init___refs, tdsPictureHeader___init___refs⟩) (yFormat0 : PySem.W.plainGet K CFormat Str.empty = true) (yFormat1 : PySem.W.hasDictIn K CFormat = true) (yFormat2 : PySem.W.plainOver K CFormat = true) (yFormat3 : PySem.W.findIn K (.ref CFormat) "__setattr__" = some (some (.builtin "object.__setattr__"))) (xFormat0 : PySem.W.findIn K (.ref CFormat) "width" = some none) (xFormat1 : PySem.W.findIn K (.ref CFormat) "height" = some none) (xFormat2 : PySem.W.findIn K (.ref CFormat) "depth" = some none) (xFormat3 : PySem.W.findIn K (.ref CFormat) "chroma" = some none) (ySettings0 : PySem.W.plainGet K CSettings Str.empty = true) (ySettings1 : PySem.W.hasDictIn K CSettings = true) (ySettings2 : PySem.W.plainOver K CSettings = true) (ySettings3 : PySem.W.findIn K (.ref CSettings) "__setattr__" = some (some (.builtin "object.__setattr__"))) (xSettings0 : PySem.W.findIn K (.ref CSettings) "fmt" = some none) (xSettings1 : PySem.W.findIn K (.ref CSettings) "slots" = some none) (xSettings2 : PySem.W.findIn K (.ref CSettings) "rows" = some none) (xSettings3 : PySem.W.findIn K (.ref CSettings) "deblock" = some none) (xSettings4 : PySem.W.findIn K (.ref CSettings) "offset" = some none) (xSettings5 : PySem.W.findIn K (.ref CSettings) "layers" = some none) (ySliceHeader0 : PySem.W.plainGet K CSliceHeader Str.empty = true) (ySliceHeader1 : PySem.W.hasDictIn K CSliceHeader = true) (ySliceHeader2 : PySem.W.plainOver K CSliceHeader = true) (ySliceHeader3 : PySem.W.findIn K (.ref CSliceHeader) "__setattr__" = some (some (.builtin "object.__setattr__"))) (iSliceHeader0 : PySem.W.findIn K (.ref CSliceHeader) "__class__" = some (some (.builtin "object.__class__"))) (iSliceHeader1 : PySem.W.specialIn K (.builtin "object.__class__") "__get__" = some (some (.builtin "getset_descriptor.__get__"))) (iSliceHeader2 : PySem.W.takesIn K (.builtin "object.__class__") = some true) (iSliceHeader3 : PySem.W.mroIn K CSliceHeader (.type "object") = some true) (xSliceHeader0 : PySem.W.findIn K (.ref CSliceHeader) "number" = some none) (xSliceHeader1 : PySem.W.findIn K (.ref CSliceHeader) "index" = some none) (xSliceHeader2 : PySem.W.findIn K (.ref CSliceHeader) "delta" = some none) (yBitWriter0 : PySem.W.plainGet K CBitWriter Str.empty = true) (yBitWriter1 : PySem.W.hasDictIn K CBitWriter = true) (yBitWriter2 : PySem.W.plainOver K CBitWriter = true) (yBitWriter3 : PySem.W.findIn K (.ref CBitWriter) "__setattr__" = some (some (.builtin "object.__setattr__"))) (xBitWriter0 : PySem.W.findIn K (.ref CBitWriter) "_full" = some none) (xBitWriter1 : PySem.W.findIn K (.ref CBitWriter) "_rest" = some none) (xBitWriter2 : PySem.W.findIn K (.ref CBitWriter) "_rest_bits" = some none) (yBitReader0 : PySem.W.plainGet K CBitReader Str.empty = true) (yBitReader1 : PySem.W.hasDictIn K CBitReader = true) (yBitReader2 : PySem.W.plainOver K CBitReader = true) (yBitReader3 : PySem.W.findIn K (.ref CBitReader) "__setattr__" = some (some (.builtin "object.__setattr__"))) (xBitReader0 : PySem.W.findIn K (.ref CBitReader) "_octets" = some none) (xBitReader1 : PySem.W.findIn K (.ref CBitReader) "_place" = some none) (xBitReader2 : PySem.W.findIn K (.ref CBitReader) "_end" = some none) (yPictureHeader0 : PySem.W.plainGet K CPictureHeader Str.empty = true) (yPictureHeader1 : PySem.W.hasDictIn K CPictureHeader = true) (yPictureHeader2 : PySem.W.plainOver K CPictureHeader = true) (yPictureHeader3 : PySem.W.findIn K (.ref CPictureHeader) "__setattr__" = some (some (.builtin "object.__setattr__"))) (xPictureHeader0 : PySem.W.findIn K (.ref CPictureHeader) "number" = some none) (xPictureHeader1 : PySem.W.findIn K (.ref CPictureHeader) "kind" = some none) (xPictureHeader2 : PySem.W.findIn K (.ref CPictureHeader) "level" = some none) (xPictureHeader3 : PySem.W.findIn K (.ref CPictureHeader) "store" = some none) (xPictureHeader4 : PySem.W.findIn K (.ref CPictureHeader) "refs" = some none) (xPictureHeader5 : PySem.W.findIn K (.ref CPictureHeader) "weight" = some none) (xPictureHeader6 : PySem.W.findIn K (.ref CPictureHeader) "layer" = some none) (xPictureHeader7 : PySem.W.findIn K (.ref CPictureHeader) "shown" = some none) (xPictureHeader8 : PySem.W.findIn K (.ref CPictureHeader) "edge" = some none) (exBadFormat : PySem.W.excIn K XBadFormat [.type "ValueError", .type "Exception", .type "BaseException", .type "object"] "ValueError.__new__" = true) (ekBadFormat : PySem.W.keepIn K (.ref XBadFormat) = true) (ebBadFormat : PySem.W.subIn K (.ref XBadFormat) (.type "BaseException") = some true) (etBadFormat : PySem.W.typeIn K (.ref XBadFormat) = some (.type "type")) (exBadHeader : PySem.W.excIn K XBadHeader [.type "ValueError", .type "Exception", .type "BaseException", .type "object"] "ValueError.__new__" = true) (ekBadHeader : PySem.W.keepIn K (.ref XBadHeader) = true) (ebBadHeader : PySem.W.subIn K (.ref XBadHeader) (.type "BaseException") = some true) (etBadHeader : PySem.W.typeIn K (.ref XBadHeader) = some (.type "type")) (exOutOfRange : PySem.W.excIn K XOutOfRange [.type "ValueError", .type "Exception", .type "BaseException", .type "object"] "ValueError.__new__" = true) (ekOutOfRange : PySem.W.keepIn K (.ref XOutOfRange) = true) (ebOutOfRange : PySem.W.subIn K (.ref XOutOfRange) (.type "BaseException") = some true) (etOutOfRange : PySem.W.typeIn K (.ref XOutOfRange) = some (.type "type")) (exBadOctets : PySem.W.excIn K XBadOctets [.type "ValueError", .type "Exception", .type "BaseException", .type "object"] "ValueError.__new__" = true) (ekBadOctets : PySem.W.keepIn K (.ref XBadOctets) = true) (ebBadOctets : PySem.W.subIn K (.ref XBadOctets) (.type "BaseException") = some true) (etBadOctets : PySem.W.typeIn K (.ref XBadOctets) = some (.type "type")) (exOutOfBits : PySem.W.excIn K XOutOfBits [.type "ValueError", .type "Exception", .type "BaseException", .type "object"] "ValueError.__new__" = true) (ekOutOfBits : PySem.W.keepIn K (.ref XOutOfBits) = true) (ebOutOfBits : PySem.W.subIn K (.ref XOutOfBits) (.type "BaseException") = some true) (etOutOfBits : PySem.W.typeIn K (.ref XOutOfBits) = some (.type "type")) (eiOutOfRangeOutOfRange : PySem.W.isClsIn K XOutOfRange = true) (esOutOfRangeOutOfRange : PySem.W.subIn K (.ref XOutOfRange) (.ref XOutOfRange) = some true) (ebOutOfRangeValueError : PySem.W.subIn K (.ref XOutOfRange) (.type "ValueError") = some true) (c1OutOfRange : PySem.W.findIn K (.ref XOutOfRange) "__getattribute__" = some (some (.builtin "BaseException.__getattribute__"))) (c2OutOfRange : PySem.W.findIn K (.ref XOutOfRange) "__getattr__" = some none) (c3OutOfRange : PySem.W.hasDictIn K XOutOfRange = true) (c4OutOfRange : PySem.W.findIn K (.ref XOutOfRange) "__class__" = some (some (.builtin "object.__class__"))) (c5OutOfRange : PySem.W.specialIn K (.builtin "object.__class__") "__get__" = some (some (.builtin "getset_descriptor.__get__"))) (c6OutOfRange : PySem.W.takesIn K (.builtin "object.__class__") = some true) (c7OutOfRange : PySem.W.mroIn K XOutOfRange (.type "object") = some true) :
    ∃ fd : FuncData, (∀ (s : Shared) (v : Value), BindsTo s fd ⟨[v], []⟩ [("script", v)]) ∧ ∀ base : Heap, K.In base → base.Ns mainGlobals mg → FnG l.prog w K mg base CX0 7 fa fd ["script"] (spL K) := by
  have e := hfa.symm.trans (PySem.W.mg_of X G a43)
  cases e
  have T : Txt w K mg ⟨TD_PictureHeader___init___store, TD_PictureHeader___init___refs, CBitWriter, CBitReader, CFormat, CSettings, CPictureHeader, CSliceHeader, fa, XBadFormat, XOutOfRange, XOutOfBits, XBadOctets, XBadHeader, TG_KINDS, TG_REF_COUNTS, TG_REF_COUNTS_0, TG_REF_COUNTS_1, TG_REF_COUNTS_2, fa⟩ := ⟨PySem.W.mg_none_of X G z0, PySem.W.mg_none_of X G z1, PySem.W.mg_none_of X G z2, ⟨_, PySem.W.mg_of X G z3, ⟨_, rfl⟩⟩, ⟨_, PySem.W.mg_of X G z4, ⟨_, rfl⟩⟩, ⟨_, PySem.W.mg_of X G z5, ⟨_, rfl⟩⟩, PySem.W.mg_none_of X G z6, PySem.W.mg_none_of X G z7, PySem.W.mg_none_of X G z8, PySem.W.mg_none_of X G z9, PySem.W.mg_none_of X G z10, ⟨_, PySem.W.mg_of X G z11, ⟨_, rfl⟩⟩, ⟨_, PySem.W.mg_of X G z12, ⟨_, rfl⟩⟩, ⟨_, PySem.W.mg_of X G z13, ⟨_, rfl⟩⟩, ⟨_, PySem.W.mg_of X G z14, ⟨_, rfl⟩⟩, ⟨_, PySem.W.mg_of X G z15, ⟨_, rfl⟩⟩, PySem.W.mg_none_of X G z16, PySem.W.mg_none_of X G z17, ⟨_, PySem.W.mg_of X G z18, rfl⟩, fun H => .inr ⟨_, _, _, y18, rfl, rfl, (by show 3 ≤ sizeLine; decide), (.cons ⟨_, rfl⟩ (.cons ⟨_, rfl⟩ (.cons ⟨_, rfl⟩ .nil)))⟩, ⟨_, PySem.W.mg_of X G z19, ⟨_, rfl⟩⟩, PySem.W.mg_none_of X G z20, PySem.W.mg_none_of X G z21, ⟨_, PySem.W.mg_of X G z22, rfl⟩, ⟨_, _, y22, (.cons u22_0 (.cons u22_1 (.cons u22_2 .nil)))⟩, fun z h => F2.hasK (P := fun (a : Addr) (xs : List Int) => ∀ H, SqT K H a (xs.map V.int)) (.cons ⟨rfl, fun H => .inr ⟨_, _, _, y22_0, rfl, rfl, (by show 1 ≤ sizeLine; decide), (.cons ⟨_, rfl⟩ .nil)⟩⟩ (.cons ⟨rfl, fun H => .inr ⟨_, _, _, y22_1, rfl, rfl, (by show 2 ≤ sizeLine; decide), (.cons ⟨_, rfl⟩ (.cons ⟨_, rfl⟩ .nil))⟩⟩ (.cons ⟨rfl, fun H => .inr ⟨_, _, _, y22_2, rfl, rfl, (by show 1 ≤ sizeLine; decide), (.cons ⟨_, rfl⟩ .nil)⟩⟩ .nil))) h, fun z h => F2.look (P := fun (a : Addr) (xs : List Int) => ∀ H, SqT K H a (xs.map V.int)) (.cons ⟨rfl, fun H => .inr ⟨_, _, _, y22_0, rfl, rfl, (by show 1 ≤ sizeLine; decide), (.cons ⟨_, rfl⟩ .nil)⟩⟩ (.cons ⟨rfl, fun H => .inr ⟨_, _, _, y22_1, rfl, rfl, (by show 2 ≤ sizeLine; decide), (.cons ⟨_, rfl⟩ (.cons ⟨_, rfl⟩ .nil))⟩⟩ (.cons ⟨rfl, fun H => .inr ⟨_, _, _, y22_2, rfl, rfl, (by show 1 ≤ sizeLine; decide), (.cons ⟨_, rfl⟩ .nil)⟩⟩ .nil))) h, PySem.W.mg_none_of X G z23, fun H => .inr ⟨_, _, _, ytPictureHeader___init___store, rfl, rfl, (by show 0 ≤ sizeLine; decide), .nil⟩, fun H => .inr ⟨_, _, _, ytPictureHeader___init___refs, rfl, rfl, (by show 0 ≤ sizeLine; decide), .nil⟩, ⟨yFormat0, yFormat1, yFormat2, yFormat3⟩, xFormat0, xFormat1, xFormat2, xFormat3, ⟨ySettings0, ySettings1, ySettings2, ySettings3⟩, xSettings0, xSettings1, xSettings2, xSettings3, xSettings4, xSettings5, ⟨ySliceHeader0, ySliceHeader1, ySliceHeader2, ySliceHeader3⟩, PySem.W.mg_of X G wSliceHeader, ⟨iSliceHeader0, iSliceHeader1, iSliceHeader2, iSliceHeader3⟩, xSliceHeader0, xSliceHeader1, xSliceHeader2, ⟨yBitWriter0, yBitWriter1, yBitWriter2, yBitWriter3⟩, xBitWriter0, xBitWriter1, xBitWriter2, ⟨yBitReader0, yBitReader1, yBitReader2, yBitReader3⟩, xBitReader0, xBitReader1, xBitReader2, ⟨yPictureHeader0, yPictureHeader1, yPictureHeader2, yPictureHeader3⟩, xPictureHeader0, xPictureHeader1, xPictureHeader2, xPictureHeader3, xPictureHeader4, xPictureHeader5, xPictureHeader6, xPictureHeader7, xPictureHeader8, PySem.W.mg_of X G vBadFormat, exBadFormat, ekBadFormat, ebBadFormat, etBadFormat, PySem.W.mg_of X G vBadHeader, exBadHeader, ekBadHeader, ebBadHeader, etBadHeader, PySem.W.mg_of X G vOutOfRange, exOutOfRange, ekOutOfRange, ebOutOfRange, etOutOfRange, PySem.W.mg_of X G vBadOctets, exBadOctets, ekBadOctets, ebBadOctets, etBadOctets, PySem.W.mg_of X G vOutOfBits, exOutOfBits, ekOutOfBits, ebOutOfBits, etOutOfBits, exm_mk ebOutOfRange eiOutOfRangeOutOfRange etOutOfRange esOutOfRangeOutOfRange, kit_blt ebOutOfRangeValueError, ⟨c1OutOfRange, c2OutOfRange, ebOutOfRange, c3OutOfRange, c4OutOfRange, c5OutOfRange, c6OutOfRange, c7OutOfRange⟩⟩
  have F0 : FunD K "_law_draws" "_law_draws" (defArgs s__law_draws) (defBody s__law_draws) (defScope s__law_draws) [] [] f0 _ := ⟨⟨_, _, _, _, _, _, _, _, _, _, rfl, l0, c0, .inl ⟨rfl, rfl⟩, .inl rfl⟩, k0⟩
  have D_0 : DefX K mg "_law_draws" s__law_draws ["cell", "limits"] pats__law_draws := ⟨_, _, _, _, F0, PySem.W.mg_of X G a0, (all_consQ (Bnd.all fun us ws vs zs l1 l2 r rz => by
      obtain ⟨u0, u1, rfl⟩ := len2 (r.length.symm.trans l1)
      obtain rfl := len0 (rz.length.symm.trans l2)
      cases r with | cons r0 r =>
        cases r with | cons r1 r =>
          cases r
          cases rz
          exact ⟨[u0, u1], rfl, (.cons r0 (.cons r1 .nil))⟩) all_nilQ)⟩
  have F1 : FunD K "_law_between" "_law_between" (defArgs s__law_between) (defBody s__law_between) (defScope s__law_between) [] [] f1 _ := ⟨⟨_, _, _, _, _, _, _, _, _, _, rfl, l1, c1, .inl ⟨rfl, rfl⟩, .inl rfl⟩, k1⟩
  have D_1 : DefX K mg "_law_between" s__law_between ["first", "second", "low", "high"] pats__law_between := ⟨_, _, _, _, F1, PySem.W.mg_of X G a1, (all_consQ (Bnd.all fun us ws vs zs l1 l2 r rz => by
      obtain ⟨u0, u1, u2, u3, rfl⟩ := len4 (r.length.symm.trans l1)
      obtain rfl := len0 (rz.length.symm.trans l2)
      cases r with | cons r0 r =>
        cases r with | cons r1 r =>
          cases r with | cons r2 r =>
            cases r with | cons r3 r =>
              cases r
              cases rz
              exact ⟨[u0, u1, u2, u3], rfl, (.cons r0 (.cons r1 (.cons r2 (.cons r3 .nil))))⟩) all_nilQ)⟩
  have F2 : FunD K "_law_numbers" "_law_numbers" (defArgs s__law_numbers) (defBody s__law_numbers) (defScope s__law_numbers) [] [] f2 _ := ⟨⟨_, _, _, _, _, _, _, _, _, _, rfl, l2, c2, .inl ⟨rfl, rfl⟩, .inl rfl⟩, k2⟩
  have D_2 : DefX K mg "_law_numbers" s__law_numbers ["cell"] pats__law_numbers := ⟨_, _, _, _, F2, PySem.W.mg_of X G a2, (all_consQ (Bnd.all fun us ws vs zs l1 l2 r rz => by
      obtain ⟨u0, rfl⟩ := len1 (r.length.symm.trans l1)
      obtain rfl := len0 (rz.length.symm.trans l2)
      cases r with | cons r0 r =>
        cases r
        cases rz
        exact ⟨[u0], rfl, (.cons r0 .nil)⟩) all_nilQ)⟩
  have F3 : FunD K "__init__" "Format.__init__" (defArgs s_Format___init__) (defBody s_Format___init__) (defScope s_Format___init__) [] [("depth", V.int 8), ("chroma", V.int 0)] f3 _ := ⟨⟨_, _, _, _, _, _, _, _, _, _, rfl, l3, c3, .inl ⟨rfl, rfl⟩, (.inr ⟨_, rfl, (all_consQ ⟨_, kd3_0, ⟨_, rfl⟩⟩ (all_consQ ⟨_, kd3_1, ⟨_, rfl⟩⟩ all_nilQ))⟩)⟩, k3⟩
  have D_3 : InitX K mg CFormat "Format" "Format.__init__" s_Format___init__ ["self", "width", "height", "depth", "chroma"] pats_Format___init__ := ⟨_, _, _, _, F3, ⟨d3, a3, b3, e3⟩, PySem.W.mg_of X G wFormat, (all_consQ (Bnd.all fun us ws vs zs l1 l2 r rz => by
      obtain ⟨u0, u1, u2, rfl⟩ := len3 (r.length.symm.trans l1)
      obtain ⟨w0, w1, rfl⟩ := len2 (rz.length.symm.trans l2)
      cases r with | cons r0 r =>
        cases r with | cons r1 r =>
          cases r with | cons r2 r =>
            cases r
            cases rz with | cons q0 rz =>
              cases rz with | cons q1 rz =>
                cases rz
                exact ⟨[u0, u1, u2, w0, w1], rfl, (.cons r0 (.cons r1 (.cons r2 (.cons q0 (.cons q1 .nil)))))⟩) all_nilQ)⟩
  have F4 : FunD K "_require" "_require" (defArgs s__require) (defBody s__require) (defScope s__require) [] [] f4 _ := ⟨⟨_, _, _, _, _, _, _, _, _, _, rfl, l4, c4, .inl ⟨rfl, rfl⟩, .inl rfl⟩, k4⟩
  have D_4 : DefX K mg "_require" s__require ["holds", "text"] pats__require := ⟨_, _, _, _, F4, PySem.W.mg_of X G a4, (all_consQ (Bnd.all fun us ws vs zs l1 l2 r rz => by
      obtain ⟨u0, u1, rfl⟩ := len2 (r.length.symm.trans l1)
      obtain rfl := len0 (rz.length.symm.trans l2)
      cases r with | cons r0 r =>
        cases r with | cons r1 r =>
          cases r
          cases rz
          exact ⟨[u0, u1], rfl, (.cons r0 (.cons r1 .nil))⟩) all_nilQ)⟩
  have F5 : FunD K "__init__" "Settings.__init__" (defArgs s_Settings___init__) (defBody s_Settings___init__) (defScope s_Settings___init__) [] [("slots", V.int 1), ("rows", V.int 1), ("deblock", V.bl false), ("offset", V.bl false), ("layers", V.int 1)] f5 _ := ⟨⟨_, _, _, _, _, _, _, _, _, _, rfl, l5, c5, .inl ⟨rfl, rfl⟩, (.inr ⟨_, rfl, (all_consQ ⟨_, kd5_0, ⟨_, rfl⟩⟩ (all_consQ ⟨_, kd5_1, ⟨_, rfl⟩⟩ (all_consQ ⟨_, kd5_2, rfl⟩ (all_consQ ⟨_, kd5_3, rfl⟩ (all_consQ ⟨_, kd5_4, ⟨_, rfl⟩⟩ all_nilQ)))))⟩)⟩, k5⟩
  have D_5 : InitX K mg CSettings "Settings" "Settings.__init__" s_Settings___init__ ["self", "fmt", "slots", "rows", "deblock", "offset", "layers"] pats_Settings___init__ := ⟨_, _, _, _, F5, ⟨d5, a5, b5, e5⟩, PySem.W.mg_of X G wSettings, (all_consQ (Bnd.all fun us ws vs zs l1 l2 r rz => by
      obtain ⟨u0, u1, rfl⟩ := len2 (r.length.symm.trans l1)
      obtain ⟨w0, w1, w2, w3, w4, rfl⟩ := len5 (rz.length.symm.trans l2)
      cases r with | cons r0 r =>
        cases r with | cons r1 r =>
          cases r
          cases rz with | cons q0 rz =>
            cases rz with | cons q1 rz =>
              cases rz with | cons q2 rz =>
                cases rz with | cons q3 rz =>
                  cases rz with | cons q4 rz =>
                    cases rz
                    exact ⟨[u0, u1, w0, w1, w2, w3, w4], rfl, (.cons r0 (.cons r1 (.cons q0 (.cons q1 (.cons q2 (.cons q3 (.cons q4 .nil)))))))⟩) all_nilQ)⟩
  have F6 : FunD K "_law_settings" "_law_settings" (defArgs s__law_settings) (defBody s__law_settings) (defScope s__law_settings) [] [] f6 _ := ⟨⟨_, _, _, _, _, _, _, _, _, _, rfl, l6, c6, .inl ⟨rfl, rfl⟩, .inl rfl⟩, k6⟩
  have D_6 : DefX K mg "_law_settings" s__law_settings ["n"] pats__law_settings := ⟨_, _, _, _, F6, PySem.W.mg_of X G a6, (all_consQ (Bnd.all fun us ws vs zs l1 l2 r rz => by
      obtain ⟨u0, rfl⟩ := len1 (r.length.symm.trans l1)
      obtain rfl := len0 (rz.length.symm.trans l2)
      cases r with | cons r0 r =>
        cases r
        cases rz
        exact ⟨[u0], rfl, (.cons r0 .nil)⟩) all_nilQ)⟩
  have F7 : FunD K "blocks" "Format.blocks" (defArgs s_Format_blocks) (defBody s_Format_blocks) (defScope s_Format_blocks) [] [] f7 _ := ⟨⟨_, _, _, _, _, _, _, _, _, _, rfl, l7, c7, .inl ⟨rfl, rfl⟩, .inl rfl⟩, k7⟩
  have D_7 : MethX K CFormat "Format.blocks" "blocks" s_Format_blocks ["self"] pats_Format_blocks := ⟨_, _, _, _, F7, ⟨a7, b7, k7⟩, (all_consQ (Bnd.all fun us ws vs zs l1 l2 r rz => by
      obtain ⟨u0, rfl⟩ := len1 (r.length.symm.trans l1)
      obtain rfl := len0 (rz.length.symm.trans l2)
      cases r with | cons r0 r =>
        cases r
        cases rz
        exact ⟨[u0], rfl, (.cons r0 .nil)⟩) all_nilQ)⟩
  have F8 : FunD K "slices" "Settings.slices" (defArgs s_Settings_slices) (defBody s_Settings_slices) (defScope s_Settings_slices) [] [] f8 _ := ⟨⟨_, _, _, _, _, _, _, _, _, _, rfl, l8, c8, .inl ⟨rfl, rfl⟩, .inl rfl⟩, k8⟩
  have D_8 : MethX K CSettings "Settings.slices" "slices" s_Settings_slices ["self"] pats_Settings_slices := ⟨_, _, _, _, F8, ⟨a8, b8, k8⟩, (all_consQ (Bnd.all fun us ws vs zs l1 l2 r rz => by
      obtain ⟨u0, rfl⟩ := len1 (r.length.symm.trans l1)
      obtain rfl := len0 (rz.length.symm.trans l2)
      cases r with | cons r0 r =>
        cases r
        cases rz
        exact ⟨[u0], rfl, (.cons r0 .nil)⟩) all_nilQ)⟩
  have F9 : FunD K "__init__" "SliceHeader.__init__" (defArgs s_SliceHeader___init__) (defBody s_SliceHeader___init__) (defScope s_SliceHeader___init__) [] [("delta", V.int 0)] f9 _ := ⟨⟨_, _, _, _, _, _, _, _, _, _, rfl, l9, c9, .inl ⟨rfl, rfl⟩, (.inr ⟨_, rfl, (all_consQ ⟨_, kd9_0, ⟨_, rfl⟩⟩ all_nilQ)⟩)⟩, k9⟩
  have D_9 : InitX K mg CSliceHeader "SliceHeader" "SliceHeader.__init__" s_SliceHeader___init__ ["self", "settings", "number", "index", "delta"] pats_SliceHeader___init__ := ⟨_, _, _, _, F9, ⟨d9, a9, b9, e9⟩, PySem.W.mg_of X G wSliceHeader, (all_consQ (Bnd.all fun us ws vs zs l1 l2 r rz => by
      obtain ⟨u0, u1, rfl⟩ := len2 (r.length.symm.trans l1)
      obtain ⟨w0, w1, w2, rfl⟩ := len3 (rz.length.symm.trans l2)
      cases r with | cons r0 r =>
        cases r with | cons r1 r =>
          cases r
          cases rz with | cons q0 rz =>
            cases rz with | cons q1 rz =>
              cases rz with | cons q2 rz =>
                cases rz
                exact ⟨[u0, u1, w0, w1, w2], rfl, (.cons r0 (.cons r1 (.cons q0 (.cons q1 (.cons q2 .nil)))))⟩) (all_consQ (Exists.elim (FunD.kbinds0 F9 2 ["number", "index"] [("delta", V.int 0)] (fun {α} => gk_SliceHeader___init___1 (α := α)) (by simp) (by simp) (fun r s q => gkrel_SliceHeader___init___1 r s q) (fun D doc pm an cdv ct us mv ws h1 h2 h3 => by
        obtain ⟨u0, u1, rfl⟩ := len2 h1
        obtain ⟨m0, rfl⟩ := len1 h2
        obtain ⟨w0, w1, rfl⟩ := len2 h3
        exact ⟨_, _, _, _, _, _, rfl, rfl, rfl⟩)) fun _ hb => Bnd.of_kbn hb) all_nilQ))⟩
  have F10 : FunD K "__eq__" "SliceHeader.__eq__" (defArgs s_SliceHeader___eq__) (defBody s_SliceHeader___eq__) (defScope s_SliceHeader___eq__) [] [] f10 _ := ⟨⟨_, _, _, _, _, _, _, _, _, _, rfl, l10, c10, .inl ⟨rfl, rfl⟩, .inl rfl⟩, k10⟩
  have D_10 : MethX K CSliceHeader "SliceHeader.__eq__" "__eq__" s_SliceHeader___eq__ ["self", "other"] pats_SliceHeader___eq__ := ⟨_, _, _, _, F10, ⟨a10, b10, k10⟩, (all_consQ (Bnd.all fun us ws vs zs l1 l2 r rz => by
      obtain ⟨u0, u1, rfl⟩ := len2 (r.length.symm.trans l1)
      obtain rfl := len0 (rz.length.symm.trans l2)
      cases r with | cons r0 r =>
        cases r with | cons r1 r =>
          cases r
          cases rz
          exact ⟨[u0, u1], rfl, (.cons r0 (.cons r1 .nil))⟩) all_nilQ)⟩
  have F11 : FunD K "_law_packed" "_law_packed" (defArgs s__law_packed) (defBody s__law_packed) (defScope s__law_packed) [] [] f11 _ := ⟨⟨_, _, _, _, _, _, _, _, _, _, rfl, l11, c11, .inl ⟨rfl, rfl⟩, .inl rfl⟩, k11⟩
  have D_11 : DefX K mg "_law_packed" s__law_packed ["bits"] pats__law_packed := ⟨_, _, _, _, F11, PySem.W.mg_of X G a11, (all_consQ (Bnd.all fun us ws vs zs l1 l2 r rz => by
      obtain ⟨u0, rfl⟩ := len1 (r.length.symm.trans l1)
      obtain rfl := len0 (rz.length.symm.trans l2)
      cases r with | cons r0 r =>
        cases r
        cases rz
        exact ⟨[u0], rfl, (.cons r0 .nil)⟩) all_nilQ)⟩
  have F12 : FunD K "__init__" "BitWriter.__init__" (defArgs s_BitWriter___init__) (defBody s_BitWriter___init__) (defScope s_BitWriter___init__) [] [] f12 _ := ⟨⟨_, _, _, _, _, _, _, _, _, _, rfl, l12, c12, .inl ⟨rfl, rfl⟩, .inl rfl⟩, k12⟩
  have D_12 : InitX K mg CBitWriter "BitWriter" "BitWriter.__init__" s_BitWriter___init__ ["self"] pats_BitWriter___init__ := ⟨_, _, _, _, F12, ⟨d12, a12, b12, e12⟩, PySem.W.mg_of X G wBitWriter, (all_consQ (Bnd.all fun us ws vs zs l1 l2 r rz => by
      obtain ⟨u0, rfl⟩ := len1 (r.length.symm.trans l1)
      obtain rfl := len0 (rz.length.symm.trans l2)
      cases r with | cons r0 r =>
        cases r
        cases rz
        exact ⟨[u0], rfl, (.cons r0 .nil)⟩) all_nilQ)⟩
  have F13 : FunD K "_add" "BitWriter._add" (defArgs s_BitWriter__add) (defBody s_BitWriter__add) (defScope s_BitWriter__add) [] [] f13 _ := ⟨⟨_, _, _, _, _, _, _, _, _, _, rfl, l13, c13, .inl ⟨rfl, rfl⟩, .inl rfl⟩, k13⟩
  have D_13 : MethX K CBitWriter "BitWriter._add" "_add" s_BitWriter__add ["self", "value", "count"] pats_BitWriter__add := ⟨_, _, _, _, F13, ⟨a13, b13, k13⟩, (all_consQ (Bnd.all fun us ws vs zs l1 l2 r rz => by
      obtain ⟨u0, u1, u2, rfl⟩ := len3 (r.length.symm.trans l1)
      obtain rfl := len0 (rz.length.symm.trans l2)
      cases r with | cons r0 r =>
        cases r with | cons r1 r =>
          cases r with | cons r2 r =>
            cases r
            cases rz
            exact ⟨[u0, u1, u2], rfl, (.cons r0 (.cons r1 (.cons r2 .nil)))⟩) all_nilQ)⟩
  have F14 : FunD K "put_ue" "BitWriter.put_ue" (defArgs s_BitWriter_put_ue) (defBody s_BitWriter_put_ue) (defScope s_BitWriter_put_ue) [] [] f14 _ := ⟨⟨_, _, _, _, _, _, _, _, _, _, rfl, l14, c14, .inl ⟨rfl, rfl⟩, .inl rfl⟩, k14⟩
  have D_14 : MethX K CBitWriter "BitWriter.put_ue" "put_ue" s_BitWriter_put_ue ["self", "value"] pats_BitWriter_put_ue := ⟨_, _, _, _, F14, ⟨a14, b14, k14⟩, (all_consQ (Bnd.all fun us ws vs zs l1 l2 r rz => by
      obtain ⟨u0, u1, rfl⟩ := len2 (r.length.symm.trans l1)
      obtain rfl := len0 (rz.length.symm.trans l2)
      cases r with | cons r0 r =>
        cases r with | cons r1 r =>
          cases r
          cases rz
          exact ⟨[u0, u1], rfl, (.cons r0 (.cons r1 .nil))⟩) all_nilQ)⟩
  have F15 : FunD K "put_se" "BitWriter.put_se" (defArgs s_BitWriter_put_se) (defBody s_BitWriter_put_se) (defScope s_BitWriter_put_se) [] [] f15 _ := ⟨⟨_, _, _, _, _, _, _, _, _, _, rfl, l15, c15, .inl ⟨rfl, rfl⟩, .inl rfl⟩, k15⟩
  have D_15 : MethX K CBitWriter "BitWriter.put_se" "put_se" s_BitWriter_put_se ["self", "value"] pats_BitWriter_put_se := ⟨_, _, _, _, F15, ⟨a15, b15, k15⟩, (all_consQ (Bnd.all fun us ws vs zs l1 l2 r rz => by
      obtain ⟨u0, u1, rfl⟩ := len2 (r.length.symm.trans l1)
      obtain rfl := len0 (rz.length.symm.trans l2)
      cases r with | cons r0 r =>
        cases r with | cons r1 r =>
          cases r
          cases rz
          exact ⟨[u0, u1], rfl, (.cons r0 (.cons r1 .nil))⟩) all_nilQ)⟩
  have F16 : FunD K "octets" "BitWriter.octets" (defArgs s_BitWriter_octets) (defBody s_BitWriter_octets) (defScope s_BitWriter_octets) [] [] f16 _ := ⟨⟨_, _, _, _, _, _, _, _, _, _, rfl, l16, c16, .inl ⟨rfl, rfl⟩, .inl rfl⟩, k16⟩
  have D_16 : MethX K CBitWriter "BitWriter.octets" "octets" s_BitWriter_octets ["self"] pats_BitWriter_octets := ⟨_, _, _, _, F16, ⟨a16, b16, k16⟩, (all_consQ (Bnd.all fun us ws vs zs l1 l2 r rz => by
      obtain ⟨u0, rfl⟩ := len1 (r.length.symm.trans l1)
      obtain rfl := len0 (rz.length.symm.trans l2)
      cases r with | cons r0 r =>
        cases r
        cases rz
        exact ⟨[u0], rfl, (.cons r0 .nil)⟩) all_nilQ)⟩
  have F17 : FunD K "write_slice" "write_slice" (defArgs s_write_slice) (defBody s_write_slice) (defScope s_write_slice) [] [] f17 _ := ⟨⟨_, _, _, _, _, _, _, _, _, _, rfl, l17, c17, .inl ⟨rfl, rfl⟩, .inl rfl⟩, k17⟩
  have D_17 : DefX K mg "write_slice" s_write_slice ["settings", "header", "code"] pats_write_slice := ⟨_, _, _, _, F17, PySem.W.mg_of X G a17, (all_consQ (Bnd.all fun us ws vs zs l1 l2 r rz => by
      obtain ⟨u0, u1, u2, rfl⟩ := len3 (r.length.symm.trans l1)
      obtain rfl := len0 (rz.length.symm.trans l2)
      cases r with | cons r0 r =>
        cases r with | cons r1 r =>
          cases r with | cons r2 r =>
            cases r
            cases rz
            exact ⟨[u0, u1, u2], rfl, (.cons r0 (.cons r1 (.cons r2 .nil)))⟩) all_nilQ)⟩
  have F18 : FunD K "_last_bit" "_last_bit" (defArgs s__last_bit) (defBody s__last_bit) (defScope s__last_bit) [] [] f18 _ := ⟨⟨_, _, _, _, _, _, _, _, _, _, rfl, l18, c18, .inl ⟨rfl, rfl⟩, .inl rfl⟩, k18⟩
  have D_18 : DefX K mg "_last_bit" s__last_bit ["octet"] pats__last_bit := ⟨_, _, _, _, F18, PySem.W.mg_of X G a18, (all_consQ (Bnd.all fun us ws vs zs l1 l2 r rz => by
      obtain ⟨u0, rfl⟩ := len1 (r.length.symm.trans l1)
      obtain rfl := len0 (rz.length.symm.trans l2)
      cases r with | cons r0 r =>
        cases r
        cases rz
        exact ⟨[u0], rfl, (.cons r0 .nil)⟩) all_nilQ)⟩
  have F19 : FunD K "__init__" "BitReader.__init__" (defArgs s_BitReader___init__) (defBody s_BitReader___init__) (defScope s_BitReader___init__) [] [] f19 _ := ⟨⟨_, _, _, _, _, _, _, _, _, _, rfl, l19, c19, .inl ⟨rfl, rfl⟩, .inl rfl⟩, k19⟩
  have D_19 : InitX K mg CBitReader "BitReader" "BitReader.__init__" s_BitReader___init__ ["self", "octets"] pats_BitReader___init__ := ⟨_, _, _, _, F19, ⟨d19, a19, b19, e19⟩, PySem.W.mg_of X G wBitReader, (all_consQ (Bnd.all fun us ws vs zs l1 l2 r rz => by
      obtain ⟨u0, u1, rfl⟩ := len2 (r.length.symm.trans l1)
      obtain rfl := len0 (rz.length.symm.trans l2)
      cases r with | cons r0 r =>
        cases r with | cons r1 r =>
          cases r
          cases rz
          exact ⟨[u0, u1], rfl, (.cons r0 (.cons r1 .nil))⟩) all_nilQ)⟩
  have F20 : FunD K "_look" "BitReader._look" (defArgs s_BitReader__look) (defBody s_BitReader__look) (defScope s_BitReader__look) [] [] f20 _ := ⟨⟨_, _, _, _, _, _, _, _, _, _, rfl, l20, c20, .inl ⟨rfl, rfl⟩, .inl rfl⟩, k20⟩
  have D_20 : MethX K CBitReader "BitReader._look" "_look" s_BitReader__look ["self", "place", "count"] pats_BitReader__look := ⟨_, _, _, _, F20, ⟨a20, b20, k20⟩, (all_consQ (Bnd.all fun us ws vs zs l1 l2 r rz => by
      obtain ⟨u0, u1, u2, rfl⟩ := len3 (r.length.symm.trans l1)
      obtain rfl := len0 (rz.length.symm.trans l2)
      cases r with | cons r0 r =>
        cases r with | cons r1 r =>
          cases r with | cons r2 r =>
            cases r
            cases rz
            exact ⟨[u0, u1, u2], rfl, (.cons r0 (.cons r1 (.cons r2 .nil)))⟩) all_nilQ)⟩
  have F21 : FunD K "_zeros" "BitReader._zeros" (defArgs s_BitReader__zeros) (defBody s_BitReader__zeros) (defScope s_BitReader__zeros) [] [] f21 _ := ⟨⟨_, _, _, _, _, _, _, _, _, _, rfl, l21, c21, .inl ⟨rfl, rfl⟩, .inl rfl⟩, k21⟩
  have D_21 : MethX K CBitReader "BitReader._zeros" "_zeros" s_BitReader__zeros ["self"] pats_BitReader__zeros := ⟨_, _, _, _, F21, ⟨a21, b21, k21⟩, (all_consQ (Bnd.all fun us ws vs zs l1 l2 r rz => by
      obtain ⟨u0, rfl⟩ := len1 (r.length.symm.trans l1)
      obtain rfl := len0 (rz.length.symm.trans l2)
      cases r with | cons r0 r =>
        cases r
        cases rz
        exact ⟨[u0], rfl, (.cons r0 .nil)⟩) all_nilQ)⟩
  have F22 : FunD K "_take" "BitReader._take" (defArgs s_BitReader__take) (defBody s_BitReader__take) (defScope s_BitReader__take) [] [] f22 _ := ⟨⟨_, _, _, _, _, _, _, _, _, _, rfl, l22, c22, .inl ⟨rfl, rfl⟩, .inl rfl⟩, k22⟩
  have D_22 : MethX K CBitReader "BitReader._take" "_take" s_BitReader__take ["self", "count"] pats_BitReader__take := ⟨_, _, _, _, F22, ⟨a22, b22, k22⟩, (all_consQ (Bnd.all fun us ws vs zs l1 l2 r rz => by
      obtain ⟨u0, u1, rfl⟩ := len2 (r.length.symm.trans l1)
      obtain rfl := len0 (rz.length.symm.trans l2)
      cases r with | cons r0 r =>
        cases r with | cons r1 r =>
          cases r
          cases rz
          exact ⟨[u0, u1], rfl, (.cons r0 (.cons r1 .nil))⟩) all_nilQ)⟩
  have F23 : FunD K "get_ue" "BitReader.get_ue" (defArgs s_BitReader_get_ue) (defBody s_BitReader_get_ue) (defScope s_BitReader_get_ue) [] [] f23 _ := ⟨⟨_, _, _, _, _, _, _, _, _, _, rfl, l23, c23, .inl ⟨rfl, rfl⟩, .inl rfl⟩, k23⟩
  have D_23 : MethX K CBitReader "BitReader.get_ue" "get_ue" s_BitReader_get_ue ["self"] pats_BitReader_get_ue := ⟨_, _, _, _, F23, ⟨a23, b23, k23⟩, (all_consQ (Bnd.all fun us ws vs zs l1 l2 r rz => by
      obtain ⟨u0, rfl⟩ := len1 (r.length.symm.trans l1)
      obtain rfl := len0 (rz.length.symm.trans l2)
      cases r with | cons r0 r =>
        cases r
        cases rz
        exact ⟨[u0], rfl, (.cons r0 .nil)⟩) all_nilQ)⟩
  have F24 : FunD K "get_se" "BitReader.get_se" (defArgs s_BitReader_get_se) (defBody s_BitReader_get_se) (defScope s_BitReader_get_se) [] [] f24 _ := ⟨⟨_, _, _, _, _, _, _, _, _, _, rfl, l24, c24, .inl ⟨rfl, rfl⟩, .inl rfl⟩, k24⟩
  have D_24 : MethX K CBitReader "BitReader.get_se" "get_se" s_BitReader_get_se ["self"] pats_BitReader_get_se := ⟨_, _, _, _, F24, ⟨a24, b24, k24⟩, (all_consQ (Bnd.all fun us ws vs zs l1 l2 r rz => by
      obtain ⟨u0, rfl⟩ := len1 (r.length.symm.trans l1)
      obtain rfl := len0 (rz.length.symm.trans l2)
      cases r with | cons r0 r =>
        cases r
        cases rz
        exact ⟨[u0], rfl, (.cons r0 .nil)⟩) all_nilQ)⟩
  have F25 : FunD K "_get_slice" "_get_slice" (defArgs s__get_slice) (defBody s__get_slice) (defScope s__get_slice) [] [] f25 _ := ⟨⟨_, _, _, _, _, _, _, _, _, _, rfl, l25, c25, .inl ⟨rfl, rfl⟩, .inl rfl⟩, k25⟩
  have D_25 : DefX K mg "_get_slice" s__get_slice ["settings", "reader"] pats__get_slice := ⟨_, _, _, _, F25, PySem.W.mg_of X G a25, (all_consQ (Bnd.all fun us ws vs zs l1 l2 r rz => by
      obtain ⟨u0, u1, rfl⟩ := len2 (r.length.symm.trans l1)
      obtain rfl := len0 (rz.length.symm.trans l2)
      cases r with | cons r0 r =>
        cases r with | cons r1 r =>
          cases r
          cases rz
          exact ⟨[u0, u1], rfl, (.cons r0 (.cons r1 .nil))⟩) all_nilQ)⟩
  have F26 : FunD K "left" "BitReader.left" (defArgs s_BitReader_left) (defBody s_BitReader_left) (defScope s_BitReader_left) [] [] f26 _ := ⟨⟨_, _, _, _, _, _, _, _, _, _, rfl, l26, c26, .inl ⟨rfl, rfl⟩, .inl rfl⟩, k26⟩
  have D_26 : PropX K CBitReader "BitReader.left" "left" s_BitReader_left ["self"] pats_BitReader_left := ⟨_, _, _, _, _, F26, ⟨a26, b26, d26, _, e26⟩, FunD.bindsN F26 (fun _ _ _ _ _ _ us h => by obtain ⟨u0, rfl⟩ := len1 h; rfl)⟩
  have F27 : FunD K "read_slice" "read_slice" (defArgs s_read_slice) (defBody s_read_slice) (defScope s_read_slice) [] [] f27 _ := ⟨⟨_, _, _, _, _, _, _, _, _, _, rfl, l27, c27, .inl ⟨rfl, rfl⟩, .inl rfl⟩, k27⟩
  have D_27 : DefX K mg "read_slice" s_read_slice ["settings", "payload"] pats_read_slice := ⟨_, _, _, _, F27, PySem.W.mg_of X G a27, (all_consQ (Bnd.all fun us ws vs zs l1 l2 r rz => by
      obtain ⟨u0, u1, rfl⟩ := len2 (r.length.symm.trans l1)
      obtain rfl := len0 (rz.length.symm.trans l2)
      cases r with | cons r0 r =>
        cases r with | cons r1 r =>
          cases r
          cases rz
          exact ⟨[u0, u1], rfl, (.cons r0 (.cons r1 .nil))⟩) all_nilQ)⟩
  have F28 : FunD K "_law_picture" "_law_picture" (defArgs s__law_picture) (defBody s__law_picture) (defScope s__law_picture) [] [] f28 _ := ⟨⟨_, _, _, _, _, _, _, _, _, _, rfl, l28, c28, .inl ⟨rfl, rfl⟩, .inl rfl⟩, k28⟩
  have D_28 : DefX K mg "_law_picture" s__law_picture ["cell", "n"] pats__law_picture := ⟨_, _, _, _, F28, PySem.W.mg_of X G a28, (all_consQ (Bnd.all fun us ws vs zs l1 l2 r rz => by
      obtain ⟨u0, u1, rfl⟩ := len2 (r.length.symm.trans l1)
      obtain rfl := len0 (rz.length.symm.trans l2)
      cases r with | cons r0 r =>
        cases r with | cons r1 r =>
          cases r
          cases rz
          exact ⟨[u0, u1], rfl, (.cons r0 (.cons r1 .nil))⟩) all_nilQ)⟩
  have F29 : FunD K "_law_cell" "_law_cell" (defArgs s__law_cell) (defBody s__law_cell) (defScope s__law_cell) [] [] f29 _ := ⟨⟨_, _, _, _, _, _, _, _, _, _, rfl, l29, c29, .inl ⟨rfl, rfl⟩, .inl rfl⟩, k29⟩
  have D_29 : DefX K mg "_law_cell" s__law_cell ["script", "k"] pats__law_cell := ⟨_, _, _, _, F29, PySem.W.mg_of X G a29, (all_consQ (Bnd.all fun us ws vs zs l1 l2 r rz => by
      obtain ⟨u0, u1, rfl⟩ := len2 (r.length.symm.trans l1)
      obtain rfl := len0 (rz.length.symm.trans l2)
      cases r with | cons r0 r =>
        cases r with | cons r1 r =>
          cases r
          cases rz
          exact ⟨[u0, u1], rfl, (.cons r0 (.cons r1 .nil))⟩) all_nilQ)⟩
  have F30 : FunD K "escape" "escape" (defArgs s_escape) (defBody s_escape) (defScope s_escape) [] [] f30 _ := ⟨⟨_, _, _, _, _, _, _, _, _, _, rfl, l30, c30, .inl ⟨rfl, rfl⟩, .inl rfl⟩, k30⟩
  have D_30 : DefX K mg "escape" s_escape ["octets"] pats_escape := ⟨_, _, _, _, F30, PySem.W.mg_of X G a30, (all_consQ (Bnd.all fun us ws vs zs l1 l2 r rz => by
      obtain ⟨u0, rfl⟩ := len1 (r.length.symm.trans l1)
      obtain rfl := len0 (rz.length.symm.trans l2)
      cases r with | cons r0 r =>
        cases r
        cases rz
        exact ⟨[u0], rfl, (.cons r0 .nil)⟩) all_nilQ)⟩
  have F31 : FunD K "write_unit" "write_unit" (defArgs s_write_unit) (defBody s_write_unit) (defScope s_write_unit) [] [] f31 _ := ⟨⟨_, _, _, _, _, _, _, _, _, _, rfl, l31, c31, .inl ⟨rfl, rfl⟩, .inl rfl⟩, k31⟩
  have D_31 : DefX K mg "write_unit" s_write_unit ["kind", "payload"] pats_write_unit := ⟨_, _, _, _, F31, PySem.W.mg_of X G a31, (all_consQ (Bnd.all fun us ws vs zs l1 l2 r rz => by
      obtain ⟨u0, u1, rfl⟩ := len2 (r.length.symm.trans l1)
      obtain rfl := len0 (rz.length.symm.trans l2)
      cases r with | cons r0 r =>
        cases r with | cons r1 r =>
          cases r
          cases rz
          exact ⟨[u0, u1], rfl, (.cons r0 (.cons r1 .nil))⟩) all_nilQ)⟩
  have F32 : FunD K "_law_long" "_law_long" (defArgs s__law_long) (defBody s__law_long) (defScope s__law_long) [] [] f32 _ := ⟨⟨_, _, _, _, _, _, _, _, _, _, rfl, l32, c32, .inl ⟨rfl, rfl⟩, .inl rfl⟩, k32⟩
  have D_32 : DefX K mg "_law_long" s__law_long ["settings", "header", "head", "cell"] pats__law_long := ⟨_, _, _, _, F32, PySem.W.mg_of X G a32, (all_consQ (Bnd.all fun us ws vs zs l1 l2 r rz => by
      obtain ⟨u0, u1, u2, u3, rfl⟩ := len4 (r.length.symm.trans l1)
      obtain rfl := len0 (rz.length.symm.trans l2)
      cases r with | cons r0 r =>
        cases r with | cons r1 r =>
          cases r with | cons r2 r =>
            cases r with | cons r3 r =>
              cases r
              cases rz
              exact ⟨[u0, u1, u2, u3], rfl, (.cons r0 (.cons r1 (.cons r2 (.cons r3 .nil))))⟩) all_nilQ)⟩
  have F33 : FunD K "clip" "clip" (defArgs s_clip) (defBody s_clip) (defScope s_clip) [] [] f33 _ := ⟨⟨_, _, _, _, _, _, _, _, _, _, rfl, l33, c33, .inl ⟨rfl, rfl⟩, .inl rfl⟩, k33⟩
  have D_33 : DefX K mg "clip" s_clip ["value", "low", "high"] pats_clip := ⟨_, _, _, _, F33, PySem.W.mg_of X G a33, (all_consQ (Bnd.all fun us ws vs zs l1 l2 r rz => by
      obtain ⟨u0, u1, u2, rfl⟩ := len3 (r.length.symm.trans l1)
      obtain rfl := len0 (rz.length.symm.trans l2)
      cases r with | cons r0 r =>
        cases r with | cons r1 r =>
          cases r with | cons r2 r =>
            cases r
            cases rz
            exact ⟨[u0, u1, u2], rfl, (.cons r0 (.cons r1 (.cons r2 .nil)))⟩) all_nilQ)⟩
  have F34 : FunD K "level_with" "level_with" (defArgs s_level_with) (defBody s_level_with) (defScope s_level_with) [] [] f34 _ := ⟨⟨_, _, _, _, _, _, _, _, _, _, rfl, l34, c34, .inl ⟨rfl, rfl⟩, .inl rfl⟩, k34⟩
  have D_34 : DefX K mg "level_with" s_level_with ["picture_header", "delta"] pats_level_with := ⟨_, _, _, _, F34, PySem.W.mg_of X G a34, (all_consQ (Bnd.all fun us ws vs zs l1 l2 r rz => by
      obtain ⟨u0, u1, rfl⟩ := len2 (r.length.symm.trans l1)
      obtain rfl := len0 (rz.length.symm.trans l2)
      cases r with | cons r0 r =>
        cases r with | cons r1 r =>
          cases r
          cases rz
          exact ⟨[u0, u1], rfl, (.cons r0 (.cons r1 .nil))⟩) all_nilQ)⟩
  have F35 : FunD K "slice_level" "slice_level" (defArgs s_slice_level) (defBody s_slice_level) (defScope s_slice_level) [] [] f35 _ := ⟨⟨_, _, _, _, _, _, _, _, _, _, rfl, l35, c35, .inl ⟨rfl, rfl⟩, .inl rfl⟩, k35⟩
  have D_35 : DefX K mg "slice_level" s_slice_level ["picture_header", "slice_header"] pats_slice_level := ⟨_, _, _, _, F35, PySem.W.mg_of X G a35, (all_consQ (Bnd.all fun us ws vs zs l1 l2 r rz => by
      obtain ⟨u0, u1, rfl⟩ := len2 (r.length.symm.trans l1)
      obtain rfl := len0 (rz.length.symm.trans l2)
      cases r with | cons r0 r =>
        cases r with | cons r1 r =>
          cases r
          cases rz
          exact ⟨[u0, u1], rfl, (.cons r0 (.cons r1 .nil))⟩) all_nilQ)⟩
  have F36 : FunD K "_law_bits" "_law_bits" (defArgs s__law_bits) (defBody s__law_bits) (defScope s__law_bits) [] [] f36 _ := ⟨⟨_, _, _, _, _, _, _, _, _, _, rfl, l36, c36, .inl ⟨rfl, rfl⟩, .inl rfl⟩, k36⟩
  have D_36 : DefX K mg "_law_bits" s__law_bits ["value", "count"] pats__law_bits := ⟨_, _, _, _, F36, PySem.W.mg_of X G a36, (all_consQ (Bnd.all fun us ws vs zs l1 l2 r rz => by
      obtain ⟨u0, u1, rfl⟩ := len2 (r.length.symm.trans l1)
      obtain rfl := len0 (rz.length.symm.trans l2)
      cases r with | cons r0 r =>
        cases r with | cons r1 r =>
          cases r
          cases rz
          exact ⟨[u0, u1], rfl, (.cons r0 (.cons r1 .nil))⟩) all_nilQ)⟩
  have F37 : FunD K "_law_ue" "_law_ue" (defArgs s__law_ue) (defBody s__law_ue) (defScope s__law_ue) [] [] f37 _ := ⟨⟨_, _, _, _, _, _, _, _, _, _, rfl, l37, c37, .inl ⟨rfl, rfl⟩, .inl rfl⟩, k37⟩
  have D_37 : DefX K mg "_law_ue" s__law_ue ["value"] pats__law_ue := ⟨_, _, _, _, F37, PySem.W.mg_of X G a37, (all_consQ (Bnd.all fun us ws vs zs l1 l2 r rz => by
      obtain ⟨u0, rfl⟩ := len1 (r.length.symm.trans l1)
      obtain rfl := len0 (rz.length.symm.trans l2)
      cases r with | cons r0 r =>
        cases r
        cases rz
        exact ⟨[u0], rfl, (.cons r0 .nil)⟩) all_nilQ)⟩
  have F38 : FunD K "_law_se" "_law_se" (defArgs s__law_se) (defBody s__law_se) (defScope s__law_se) [] [] f38 _ := ⟨⟨_, _, _, _, _, _, _, _, _, _, rfl, l38, c38, .inl ⟨rfl, rfl⟩, .inl rfl⟩, k38⟩
  have D_38 : DefX K mg "_law_se" s__law_se ["value"] pats__law_se := ⟨_, _, _, _, F38, PySem.W.mg_of X G a38, (all_consQ (Bnd.all fun us ws vs zs l1 l2 r rz => by
      obtain ⟨u0, rfl⟩ := len1 (r.length.symm.trans l1)
      obtain rfl := len0 (rz.length.symm.trans l2)
      cases r with | cons r0 r =>
        cases r
        cases rz
        exact ⟨[u0], rfl, (.cons r0 .nil)⟩) all_nilQ)⟩
  have F39 : FunD K "_check_numbers" "_check_numbers" (defArgs s__check_numbers) (defBody s__check_numbers) (defScope s__check_numbers) [] [] f39 _ := ⟨⟨_, _, _, _, _, _, _, _, _, _, rfl, l39, c39, .inl ⟨rfl, rfl⟩, .inl rfl⟩, k39⟩
  have D_39 : DefX K mg "_check_numbers" s__check_numbers ["settings", "header"] pats__check_numbers := ⟨_, _, _, _, F39, PySem.W.mg_of X G a39, (all_consQ (Bnd.all fun us ws vs zs l1 l2 r rz => by
      obtain ⟨u0, u1, rfl⟩ := len2 (r.length.symm.trans l1)
      obtain rfl := len0 (rz.length.symm.trans l2)
      cases r with | cons r0 r =>
        cases r with | cons r1 r =>
          cases r
          cases rz
          exact ⟨[u0, u1], rfl, (.cons r0 (.cons r1 .nil))⟩) all_nilQ)⟩
  have F40 : FunD K "_check_slots" "_check_slots" (defArgs s__check_slots) (defBody s__check_slots) (defScope s__check_slots) [] [] f40 _ := ⟨⟨_, _, _, _, _, _, _, _, _, _, rfl, l40, c40, .inl ⟨rfl, rfl⟩, .inl rfl⟩, k40⟩
  have D_40 : DefX K mg "_check_slots" s__check_slots ["settings", "header"] pats__check_slots := ⟨_, _, _, _, F40, PySem.W.mg_of X G a40, (all_consQ (Bnd.all fun us ws vs zs l1 l2 r rz => by
      obtain ⟨u0, u1, rfl⟩ := len2 (r.length.symm.trans l1)
      obtain rfl := len0 (rz.length.symm.trans l2)
      cases r with | cons r0 r =>
        cases r with | cons r1 r =>
          cases r
          cases rz
          exact ⟨[u0, u1], rfl, (.cons r0 (.cons r1 .nil))⟩) all_nilQ)⟩
  have F41 : FunD K "__init__" "PictureHeader.__init__" (defArgs s_PictureHeader___init__) (defBody s_PictureHeader___init__) (defScope s_PictureHeader___init__) [] [("kind", V.str "I"), ("level", V.int 0), ("store", V.ref TD_PictureHeader___init___store), ("refs", V.ref TD_PictureHeader___init___refs), ("weight", V.int 8), ("layer", V.int 0), ("shown", V.bl true), ("edge", V.int 0)] f41 _ := ⟨⟨_, _, _, _, _, _, _, _, _, _, rfl, l41, c41, .inl ⟨rfl, rfl⟩, (.inr ⟨_, rfl, (all_consQ ⟨_, kd41_0, ⟨_, rfl⟩⟩ (all_consQ ⟨_, kd41_1, ⟨_, rfl⟩⟩ (all_consQ ⟨_, kd41_2, rfl⟩ (all_consQ ⟨_, kd41_3, rfl⟩ (all_consQ ⟨_, kd41_4, ⟨_, rfl⟩⟩ (all_consQ ⟨_, kd41_5, ⟨_, rfl⟩⟩ (all_consQ ⟨_, kd41_6, rfl⟩ (all_consQ ⟨_, kd41_7, ⟨_, rfl⟩⟩ all_nilQ))))))))⟩)⟩, k41⟩
  have D_41 : InitX K mg CPictureHeader "PictureHeader" "PictureHeader.__init__" s_PictureHeader___init__ ["self", "settings", "number", "kind", "level", "store", "refs", "weight", "layer", "shown", "edge"] (pats_PictureHeader___init__ ⟨TD_PictureHeader___init___store, TD_PictureHeader___init___refs, CBitWriter, CBitReader, CFormat, CSettings, CPictureHeader, CSliceHeader, fa, XBadFormat, XOutOfRange, XOutOfBits, XBadOctets, XBadHeader, TG_KINDS, TG_REF_COUNTS, TG_REF_COUNTS_0, TG_REF_COUNTS_1, TG_REF_COUNTS_2, fa⟩) := ⟨_, _, _, _, F41, ⟨d41, a41, b41, e41⟩, PySem.W.mg_of X G wPictureHeader, (all_consQ (Bnd.all fun us ws vs zs l1 l2 r rz => by
      obtain ⟨u0, u1, rfl⟩ := len2 (r.length.symm.trans l1)
      obtain ⟨w0, w1, w2, w3, w4, w5, w6, w7, w8, rfl⟩ := len9 (rz.length.symm.trans l2)
      cases r with | cons r0 r =>
        cases r with | cons r1 r =>
          cases r
          cases rz with | cons q0 rz =>
            cases rz with | cons q1 rz =>
              cases rz with | cons q2 rz =>
                cases rz with | cons q3 rz =>
                  cases rz with | cons q4 rz =>
                    cases rz with | cons q5 rz =>
                      cases rz with | cons q6 rz =>
                        cases rz with | cons q7 rz =>
                          cases rz with | cons q8 rz =>
                            cases rz
                            exact ⟨[u0, u1, w0, w1, w2, w3, w4, w5, w6, w7, w8], rfl, (.cons r0 (.cons r1 (.cons q0 (.cons q1 (.cons q2 (.cons q3 (.cons q4 (.cons q5 (.cons q6 (.cons q7 (.cons q8 .nil)))))))))))⟩) all_nilQ)⟩
  have F42 : FunD K "_law_header" "_law_header" (defArgs s__law_header) (defBody s__law_header) (defScope s__law_header) [] [] f42 _ := ⟨⟨_, _, _, _, _, _, _, _, _, _, rfl, l42, c42, .inl ⟨rfl, rfl⟩, .inl rfl⟩, k42⟩
  have D_42 : DefX K mg "_law_header" s__law_header ["settings", "p"] pats__law_header := ⟨_, _, _, _, F42, PySem.W.mg_of X G a42, (all_consQ (Bnd.all fun us ws vs zs l1 l2 r rz => by
      obtain ⟨u0, u1, rfl⟩ := len2 (r.length.symm.trans l1)
      obtain rfl := len0 (rz.length.symm.trans l2)
      cases r with | cons r0 r =>
        cases r with | cons r1 r =>
          cases r
          cases rz
          exact ⟨[u0, u1], rfl, (.cons r0 (.cons r1 .nil))⟩) all_nilQ)⟩
  have F43 : FunD K "law" "law" (defArgs s_law) (defBody s_law) (defScope s_law) [] [] _ _ := ⟨⟨_, _, _, _, _, _, _, _, _, _, rfl, l43, c43, .inl ⟨rfl, rfl⟩, .inl rfl⟩, k43⟩
  have R__law_draws : ∀ base : Heap, CalX l.prog w K mg base 1 "_law_draws" (sp__law_draws K ⟨TD_PictureHeader___init___store, TD_PictureHeader___init___refs, CBitWriter, CBitReader, CFormat, CSettings, CPictureHeader, CSliceHeader, fa, XBadFormat, XOutOfRange, XOutOfBits, XBadOctets, XBadHeader, TG_KINDS, TG_REF_COUNTS, TG_REF_COUNTS_0, TG_REF_COUNTS_1, TG_REF_COUNTS_2, fa⟩) pats__law_draws := fun base => ok__law_draws D_0 T 
  have R__law_between : ∀ base : Heap, CalX l.prog w K mg base 1 "_law_between" (sp__law_between K ⟨TD_PictureHeader___init___store, TD_PictureHeader___init___refs, CBitWriter, CBitReader, CFormat, CSettings, CPictureHeader, CSliceHeader, fa, XBadFormat, XOutOfRange, XOutOfBits, XBadOctets, XBadHeader, TG_KINDS, TG_REF_COUNTS, TG_REF_COUNTS_0, TG_REF_COUNTS_1, TG_REF_COUNTS_2, fa⟩) pats__law_between := fun base => ok__law_between D_1 T 
  have R__law_numbers : ∀ base : Heap, CalX l.prog w K mg base 2 "_law_numbers" (sp__law_numbers K ⟨TD_PictureHeader___init___store, TD_PictureHeader___init___refs, CBitWriter, CBitReader, CFormat, CSettings, CPictureHeader, CSliceHeader, fa, XBadFormat, XOutOfRange, XOutOfBits, XBadOctets, XBadHeader, TG_KINDS, TG_REF_COUNTS, TG_REF_COUNTS_0, TG_REF_COUNTS_1, TG_REF_COUNTS_2, fa⟩) pats__law_numbers := fun base => ok__law_numbers D_2 T (R__law_draws base) (R__law_between base)
  have R_Format___init__ : ∀ base : Heap, MakX l.prog w K mg base 1 "Format" (⟨TD_PictureHeader___init___store, TD_PictureHeader___init___refs, CBitWriter, CBitReader, CFormat, CSettings, CPictureHeader, CSliceHeader, fa, XBadFormat, XOutOfRange, XOutOfBits, XBadOctets, XBadHeader, TG_KINDS, TG_REF_COUNTS, TG_REF_COUNTS_0, TG_REF_COUNTS_1, TG_REF_COUNTS_2, fa⟩ : Ads).c_Format (sp_Format___init__ K ⟨TD_PictureHeader___init___store, TD_PictureHeader___init___refs, CBitWriter, CBitReader, CFormat, CSettings, CPictureHeader, CSliceHeader, fa, XBadFormat, XOutOfRange, XOutOfBits, XBadOctets, XBadHeader, TG_KINDS, TG_REF_COUNTS, TG_REF_COUNTS_0, TG_REF_COUNTS_1, TG_REF_COUNTS_2, fa⟩) pats_Format___init__ := fun base => ok_Format___init__ D_3 T 
  have R__require : ∀ base : Heap, CalX l.prog w K mg base 1 "_require" (sp__require K ⟨TD_PictureHeader___init___store, TD_PictureHeader___init___refs, CBitWriter, CBitReader, CFormat, CSettings, CPictureHeader, CSliceHeader, fa, XBadFormat, XOutOfRange, XOutOfBits, XBadOctets, XBadHeader, TG_KINDS, TG_REF_COUNTS, TG_REF_COUNTS_0, TG_REF_COUNTS_1, TG_REF_COUNTS_2, fa⟩) pats__require := fun base => ok__require D_4 T 
  have R_Settings___init__ : ∀ base : Heap, MakX l.prog w K mg base 2 "Settings" (⟨TD_PictureHeader___init___store, TD_PictureHeader___init___refs, CBitWriter, CBitReader, CFormat, CSettings, CPictureHeader, CSliceHeader, fa, XBadFormat, XOutOfRange, XOutOfBits, XBadOctets, XBadHeader, TG_KINDS, TG_REF_COUNTS, TG_REF_COUNTS_0, TG_REF_COUNTS_1, TG_REF_COUNTS_2, fa⟩ : Ads).c_Settings (sp_Settings___init__ K ⟨TD_PictureHeader___init___store, TD_PictureHeader___init___refs, CBitWriter, CBitReader, CFormat, CSettings, CPictureHeader, CSliceHeader, fa, XBadFormat, XOutOfRange, XOutOfBits, XBadOctets, XBadHeader, TG_KINDS, TG_REF_COUNTS, TG_REF_COUNTS_0, TG_REF_COUNTS_1, TG_REF_COUNTS_2, fa⟩) pats_Settings___init__ := fun base => ok_Settings___init__ D_5 T (R__require base)
  have R__law_settings : ∀ base : Heap, CalX l.prog w K mg base 4 "_law_settings" (sp__law_settings K ⟨TD_PictureHeader___init___store, TD_PictureHeader___init___refs, CBitWriter, CBitReader, CFormat, CSettings, CPictureHeader, CSliceHeader, fa, XBadFormat, XOutOfRange, XOutOfBits, XBadOctets, XBadHeader, TG_KINDS, TG_REF_COUNTS, TG_REF_COUNTS_0, TG_REF_COUNTS_1, TG_REF_COUNTS_2, fa⟩) pats__law_settings := fun base => ok__law_settings D_6 T (R_Format___init__ base) (R_Settings___init__ base)
  have R_Format_blocks : ∀ base : Heap, MetX l.prog w K mg base 1 (⟨TD_PictureHeader___init___store, TD_PictureHeader___init___refs, CBitWriter, CBitReader, CFormat, CSettings, CPictureHeader, CSliceHeader, fa, XBadFormat, XOutOfRange, XOutOfBits, XBadOctets, XBadHeader, TG_KINDS, TG_REF_COUNTS, TG_REF_COUNTS_0, TG_REF_COUNTS_1, TG_REF_COUNTS_2, fa⟩ : Ads).c_Format "blocks" (sp_Format_blocks K ⟨TD_PictureHeader___init___store, TD_PictureHeader___init___refs, CBitWriter, CBitReader, CFormat, CSettings, CPictureHeader, CSliceHeader, fa, XBadFormat, XOutOfRange, XOutOfBits, XBadOctets, XBadHeader, TG_KINDS, TG_REF_COUNTS, TG_REF_COUNTS_0, TG_REF_COUNTS_1, TG_REF_COUNTS_2, fa⟩) pats_Format_blocks := fun base => ok_Format_blocks D_7 T 
  have R_Settings_slices : ∀ base : Heap, MetX l.prog w K mg base 2 (⟨TD_PictureHeader___init___store, TD_PictureHeader___init___refs, CBitWriter, CBitReader, CFormat, CSettings, CPictureHeader, CSliceHeader, fa, XBadFormat, XOutOfRange, XOutOfBits, XBadOctets, XBadHeader, TG_KINDS, TG_REF_COUNTS, TG_REF_COUNTS_0, TG_REF_COUNTS_1, TG_REF_COUNTS_2, fa⟩ : Ads).c_Settings "slices" (sp_Settings_slices K ⟨TD_PictureHeader___init___store, TD_PictureHeader___init___refs, CBitWriter, CBitReader, CFormat, CSettings, CPictureHeader, CSliceHeader, fa, XBadFormat, XOutOfRange, XOutOfBits, XBadOctets, XBadHeader, TG_KINDS, TG_REF_COUNTS, TG_REF_COUNTS_0, TG_REF_COUNTS_1, TG_REF_COUNTS_2, fa⟩) pats_Settings_slices := fun base => ok_Settings_slices D_8 T (R_Format_blocks base)
  have R_SliceHeader___init__ : ∀ base : Heap, MakX l.prog w K mg base 3 "SliceHeader" (⟨TD_PictureHeader___init___store, TD_PictureHeader___init___refs, CBitWriter, CBitReader, CFormat, CSettings, CPictureHeader, CSliceHeader, fa, XBadFormat, XOutOfRange, XOutOfBits, XBadOctets, XBadHeader, TG_KINDS, TG_REF_COUNTS, TG_REF_COUNTS_0, TG_REF_COUNTS_1, TG_REF_COUNTS_2, fa⟩ : Ads).c_SliceHeader (sp_SliceHeader___init__ K ⟨TD_PictureHeader___init___store, TD_PictureHeader___init___refs, CBitWriter, CBitReader, CFormat, CSettings, CPictureHeader, CSliceHeader, fa, XBadFormat, XOutOfRange, XOutOfBits, XBadOctets, XBadHeader, TG_KINDS, TG_REF_COUNTS, TG_REF_COUNTS_0, TG_REF_COUNTS_1, TG_REF_COUNTS_2, fa⟩) pats_SliceHeader___init__ := fun base => ok_SliceHeader___init__ D_9 T (R__require base) (R_Settings_slices base)
  have R_SliceHeader___eq__ : ∀ base : Heap, MetX l.prog w K mg base 1 (⟨TD_PictureHeader___init___store, TD_PictureHeader___init___refs, CBitWriter, CBitReader, CFormat, CSettings, CPictureHeader, CSliceHeader, fa, XBadFormat, XOutOfRange, XOutOfBits, XBadOctets, XBadHeader, TG_KINDS, TG_REF_COUNTS, TG_REF_COUNTS_0, TG_REF_COUNTS_1, TG_REF_COUNTS_2, fa⟩ : Ads).c_SliceHeader "__eq__" (sp_SliceHeader___eq__ K ⟨TD_PictureHeader___init___store, TD_PictureHeader___init___refs, CBitWriter, CBitReader, CFormat, CSettings, CPictureHeader, CSliceHeader, fa, XBadFormat, XOutOfRange, XOutOfBits, XBadOctets, XBadHeader, TG_KINDS, TG_REF_COUNTS, TG_REF_COUNTS_0, TG_REF_COUNTS_1, TG_REF_COUNTS_2, fa⟩) pats_SliceHeader___eq__ := fun base => ok_SliceHeader___eq__ D_10 T 
  have R__law_packed : ∀ base : Heap, CalX l.prog w K mg base 1 "_law_packed" (sp__law_packed K ⟨TD_PictureHeader___init___store, TD_PictureHeader___init___refs, CBitWriter, CBitReader, CFormat, CSettings, CPictureHeader, CSliceHeader, fa, XBadFormat, XOutOfRange, XOutOfBits, XBadOctets, XBadHeader, TG_KINDS, TG_REF_COUNTS, TG_REF_COUNTS_0, TG_REF_COUNTS_1, TG_REF_COUNTS_2, fa⟩) pats__law_packed := fun base => ok__law_packed D_11 T 
  have R_BitWriter___init__ : ∀ base : Heap, MakX l.prog w K mg base 1 "BitWriter" (⟨TD_PictureHeader___init___store, TD_PictureHeader___init___refs, CBitWriter, CBitReader, CFormat, CSettings, CPictureHeader, CSliceHeader, fa, XBadFormat, XOutOfRange, XOutOfBits, XBadOctets, XBadHeader, TG_KINDS, TG_REF_COUNTS, TG_REF_COUNTS_0, TG_REF_COUNTS_1, TG_REF_COUNTS_2, fa⟩ : Ads).c_BitWriter (sp_BitWriter___init__ K ⟨TD_PictureHeader___init___store, TD_PictureHeader___init___refs, CBitWriter, CBitReader, CFormat, CSettings, CPictureHeader, CSliceHeader, fa, XBadFormat, XOutOfRange, XOutOfBits, XBadOctets, XBadHeader, TG_KINDS, TG_REF_COUNTS, TG_REF_COUNTS_0, TG_REF_COUNTS_1, TG_REF_COUNTS_2, fa⟩) pats_BitWriter___init__ := fun base => ok_BitWriter___init__ D_12 T 
  have R_BitWriter__add : ∀ base : Heap, MetX l.prog w K mg base 1 (⟨TD_PictureHeader___init___store, TD_PictureHeader___init___refs, CBitWriter, CBitReader, CFormat, CSettings, CPictureHeader, CSliceHeader, fa, XBadFormat, XOutOfRange, XOutOfBits, XBadOctets, XBadHeader, TG_KINDS, TG_REF_COUNTS, TG_REF_COUNTS_0, TG_REF_COUNTS_1, TG_REF_COUNTS_2, fa⟩ : Ads).c_BitWriter "_add" (sp_BitWriter__add K ⟨TD_PictureHeader___init___store, TD_PictureHeader___init___refs, CBitWriter, CBitReader, CFormat, CSettings, CPictureHeader, CSliceHeader, fa, XBadFormat, XOutOfRange, XOutOfBits, XBadOctets, XBadHeader, TG_KINDS, TG_REF_COUNTS, TG_REF_COUNTS_0, TG_REF_COUNTS_1, TG_REF_COUNTS_2, fa⟩) pats_BitWriter__add := fun base => ok_BitWriter__add D_13 T 
  have R_BitWriter_put_ue : ∀ base : Heap, MetX l.prog w K mg base 2 (⟨TD_PictureHeader___init___store, TD_PictureHeader___init___refs, CBitWriter, CBitReader, CFormat, CSettings, CPictureHeader, CSliceHeader, fa, XBadFormat, XOutOfRange, XOutOfBits, XBadOctets, XBadHeader, TG_KINDS, TG_REF_COUNTS, TG_REF_COUNTS_0, TG_REF_COUNTS_1, TG_REF_COUNTS_2, fa⟩ : Ads).c_BitWriter "put_ue" (sp_BitWriter_put_ue K ⟨TD_PictureHeader___init___store, TD_PictureHeader___init___refs, CBitWriter, CBitReader, CFormat, CSettings, CPictureHeader, CSliceHeader, fa, XBadFormat, XOutOfRange, XOutOfBits, XBadOctets, XBadHeader, TG_KINDS, TG_REF_COUNTS, TG_REF_COUNTS_0, TG_REF_COUNTS_1, TG_REF_COUNTS_2, fa⟩) pats_BitWriter_put_ue := fun base => ok_BitWriter_put_ue D_14 T (R_BitWriter__add base)
  have R_BitWriter_put_se : ∀ base : Heap, MetX l.prog w K mg base 3 (⟨TD_PictureHeader___init___store, TD_PictureHeader___init___refs, CBitWriter, CBitReader, CFormat, CSettings, CPictureHeader, CSliceHeader, fa, XBadFormat, XOutOfRange, XOutOfBits, XBadOctets, XBadHeader, TG_KINDS, TG_REF_COUNTS, TG_REF_COUNTS_0, TG_REF_COUNTS_1, TG_REF_COUNTS_2, fa⟩ : Ads).c_BitWriter "put_se" (sp_BitWriter_put_se K ⟨TD_PictureHeader___init___store, TD_PictureHeader___init___refs, CBitWriter, CBitReader, CFormat, CSettings, CPictureHeader, CSliceHeader, fa, XBadFormat, XOutOfRange, XOutOfBits, XBadOctets, XBadHeader, TG_KINDS, TG_REF_COUNTS, TG_REF_COUNTS_0, TG_REF_COUNTS_1, TG_REF_COUNTS_2, fa⟩) pats_BitWriter_put_se := fun base => ok_BitWriter_put_se D_15 T (R_BitWriter_put_ue base)
  have R_BitWriter_octets : ∀ base : Heap, MetX l.prog w K mg base 1 (⟨TD_PictureHeader___init___store, TD_PictureHeader___init___refs, CBitWriter, CBitReader, CFormat, CSettings, CPictureHeader, CSliceHeader, fa, XBadFormat, XOutOfRange, XOutOfBits, XBadOctets, XBadHeader, TG_KINDS, TG_REF_COUNTS, TG_REF_COUNTS_0, TG_REF_COUNTS_1, TG_REF_COUNTS_2, fa⟩ : Ads).c_BitWriter "octets" (sp_BitWriter_octets K ⟨TD_PictureHeader___init___store, TD_PictureHeader___init___refs, CBitWriter, CBitReader, CFormat, CSettings, CPictureHeader, CSliceHeader, fa, XBadFormat, XOutOfRange, XOutOfBits, XBadOctets, XBadHeader, TG_KINDS, TG_REF_COUNTS, TG_REF_COUNTS_0, TG_REF_COUNTS_1, TG_REF_COUNTS_2, fa⟩) pats_BitWriter_octets := fun base => ok_BitWriter_octets D_16 T 
  have R_write_slice : ∀ base : Heap, CalX l.prog w K mg base 4 "write_slice" (sp_write_slice K ⟨TD_PictureHeader___init___store, TD_PictureHeader___init___refs, CBitWriter, CBitReader, CFormat, CSettings, CPictureHeader, CSliceHeader, fa, XBadFormat, XOutOfRange, XOutOfBits, XBadOctets, XBadHeader, TG_KINDS, TG_REF_COUNTS, TG_REF_COUNTS_0, TG_REF_COUNTS_1, TG_REF_COUNTS_2, fa⟩) pats_write_slice := fun base => ok_write_slice D_17 T (R_BitWriter___init__ base) (R_BitWriter_put_ue base) (R_BitWriter_put_se base) (R_BitWriter_octets base)
  have R__last_bit : ∀ base : Heap, CalX l.prog w K mg base 1 "_last_bit" (sp__last_bit K ⟨TD_PictureHeader___init___store, TD_PictureHeader___init___refs, CBitWriter, CBitReader, CFormat, CSettings, CPictureHeader, CSliceHeader, fa, XBadFormat, XOutOfRange, XOutOfBits, XBadOctets, XBadHeader, TG_KINDS, TG_REF_COUNTS, TG_REF_COUNTS_0, TG_REF_COUNTS_1, TG_REF_COUNTS_2, fa⟩) pats__last_bit := fun base => ok__last_bit D_18 T 
  have R_BitReader___init__ : ∀ base : Heap, MakX l.prog w K mg base 2 "BitReader" (⟨TD_PictureHeader___init___store, TD_PictureHeader___init___refs, CBitWriter, CBitReader, CFormat, CSettings, CPictureHeader, CSliceHeader, fa, XBadFormat, XOutOfRange, XOutOfBits, XBadOctets, XBadHeader, TG_KINDS, TG_REF_COUNTS, TG_REF_COUNTS_0, TG_REF_COUNTS_1, TG_REF_COUNTS_2, fa⟩ : Ads).c_BitReader (sp_BitReader___init__ K ⟨TD_PictureHeader___init___store, TD_PictureHeader___init___refs, CBitWriter, CBitReader, CFormat, CSettings, CPictureHeader, CSliceHeader, fa, XBadFormat, XOutOfRange, XOutOfBits, XBadOctets, XBadHeader, TG_KINDS, TG_REF_COUNTS, TG_REF_COUNTS_0, TG_REF_COUNTS_1, TG_REF_COUNTS_2, fa⟩) pats_BitReader___init__ := fun base => ok_BitReader___init__ D_19 T (R__last_bit base)
  have R_BitReader__look : ∀ base : Heap, MetX l.prog w K mg base 1 (⟨TD_PictureHeader___init___store, TD_PictureHeader___init___refs, CBitWriter, CBitReader, CFormat, CSettings, CPictureHeader, CSliceHeader, fa, XBadFormat, XOutOfRange, XOutOfBits, XBadOctets, XBadHeader, TG_KINDS, TG_REF_COUNTS, TG_REF_COUNTS_0, TG_REF_COUNTS_1, TG_REF_COUNTS_2, fa⟩ : Ads).c_BitReader "_look" (sp_BitReader__look K ⟨TD_PictureHeader___init___store, TD_PictureHeader___init___refs, CBitWriter, CBitReader, CFormat, CSettings, CPictureHeader, CSliceHeader, fa, XBadFormat, XOutOfRange, XOutOfBits, XBadOctets, XBadHeader, TG_KINDS, TG_REF_COUNTS, TG_REF_COUNTS_0, TG_REF_COUNTS_1, TG_REF_COUNTS_2, fa⟩) pats_BitReader__look := fun base => ok_BitReader__look D_20 T 
  have R_BitReader__zeros : ∀ base : Heap, MetX l.prog w K mg base 2 (⟨TD_PictureHeader___init___store, TD_PictureHeader___init___refs, CBitWriter, CBitReader, CFormat, CSettings, CPictureHeader, CSliceHeader, fa, XBadFormat, XOutOfRange, XOutOfBits, XBadOctets, XBadHeader, TG_KINDS, TG_REF_COUNTS, TG_REF_COUNTS_0, TG_REF_COUNTS_1, TG_REF_COUNTS_2, fa⟩ : Ads).c_BitReader "_zeros" (sp_BitReader__zeros K ⟨TD_PictureHeader___init___store, TD_PictureHeader___init___refs, CBitWriter, CBitReader, CFormat, CSettings, CPictureHeader, CSliceHeader, fa, XBadFormat, XOutOfRange, XOutOfBits, XBadOctets, XBadHeader, TG_KINDS, TG_REF_COUNTS, TG_REF_COUNTS_0, TG_REF_COUNTS_1, TG_REF_COUNTS_2, fa⟩) pats_BitReader__zeros := fun base => ok_BitReader__zeros D_21 T (R_BitReader__look base)
  have R_BitReader__take : ∀ base : Heap, MetX l.prog w K mg base 2 (⟨TD_PictureHeader___init___store, TD_PictureHeader___init___refs, CBitWriter, CBitReader, CFormat, CSettings, CPictureHeader, CSliceHeader, fa, XBadFormat, XOutOfRange, XOutOfBits, XBadOctets, XBadHeader, TG_KINDS, TG_REF_COUNTS, TG_REF_COUNTS_0, TG_REF_COUNTS_1, TG_REF_COUNTS_2, fa⟩ : Ads).c_BitReader "_take" (sp_BitReader__take K ⟨TD_PictureHeader___init___store, TD_PictureHeader___init___refs, CBitWriter, CBitReader, CFormat, CSettings, CPictureHeader, CSliceHeader, fa, XBadFormat, XOutOfRange, XOutOfBits, XBadOctets, XBadHeader, TG_KINDS, TG_REF_COUNTS, TG_REF_COUNTS_0, TG_REF_COUNTS_1, TG_REF_COUNTS_2, fa⟩) pats_BitReader__take := fun base => ok_BitReader__take D_22 T (R_BitReader__look base)
  have R_BitReader_get_ue : ∀ base : Heap, MetX l.prog w K mg base 3 (⟨TD_PictureHeader___init___store, TD_PictureHeader___init___refs, CBitWriter, CBitReader, CFormat, CSettings, CPictureHeader, CSliceHeader, fa, XBadFormat, XOutOfRange, XOutOfBits, XBadOctets, XBadHeader, TG_KINDS, TG_REF_COUNTS, TG_REF_COUNTS_0, TG_REF_COUNTS_1, TG_REF_COUNTS_2, fa⟩ : Ads).c_BitReader "get_ue" (sp_BitReader_get_ue K ⟨TD_PictureHeader___init___store, TD_PictureHeader___init___refs, CBitWriter, CBitReader, CFormat, CSettings, CPictureHeader, CSliceHeader, fa, XBadFormat, XOutOfRange, XOutOfBits, XBadOctets, XBadHeader, TG_KINDS, TG_REF_COUNTS, TG_REF_COUNTS_0, TG_REF_COUNTS_1, TG_REF_COUNTS_2, fa⟩) pats_BitReader_get_ue := fun base => ok_BitReader_get_ue D_23 T (R_BitReader__zeros base) (R_BitReader__take base)
  have R_BitReader_get_se : ∀ base : Heap, MetX l.prog w K mg base 4 (⟨TD_PictureHeader___init___store, TD_PictureHeader___init___refs, CBitWriter, CBitReader, CFormat, CSettings, CPictureHeader, CSliceHeader, fa, XBadFormat, XOutOfRange, XOutOfBits, XBadOctets, XBadHeader, TG_KINDS, TG_REF_COUNTS, TG_REF_COUNTS_0, TG_REF_COUNTS_1, TG_REF_COUNTS_2, fa⟩ : Ads).c_BitReader "get_se" (sp_BitReader_get_se K ⟨TD_PictureHeader___init___store, TD_PictureHeader___init___refs, CBitWriter, CBitReader, CFormat, CSettings, CPictureHeader, CSliceHeader, fa, XBadFormat, XOutOfRange, XOutOfBits, XBadOctets, XBadHeader, TG_KINDS, TG_REF_COUNTS, TG_REF_COUNTS_0, TG_REF_COUNTS_1, TG_REF_COUNTS_2, fa⟩) pats_BitReader_get_se := fun base => ok_BitReader_get_se D_24 T (R_BitReader_get_ue base)
  have R__get_slice : ∀ base : Heap, CalX l.prog w K mg base 5 "_get_slice" (sp__get_slice K ⟨TD_PictureHeader___init___store, TD_PictureHeader___init___refs, CBitWriter, CBitReader, CFormat, CSettings, CPictureHeader, CSliceHeader, fa, XBadFormat, XOutOfRange, XOutOfBits, XBadOctets, XBadHeader, TG_KINDS, TG_REF_COUNTS, TG_REF_COUNTS_0, TG_REF_COUNTS_1, TG_REF_COUNTS_2, fa⟩) pats__get_slice := fun base => ok__get_slice D_25 T (R_BitReader_get_ue base) (R_BitReader_get_se base) (R_SliceHeader___init__ base)
  have R_BitReader_left : ∀ base : Heap, PropY l.prog w K mg base 1 (⟨TD_PictureHeader___init___store, TD_PictureHeader___init___refs, CBitWriter, CBitReader, CFormat, CSettings, CPictureHeader, CSliceHeader, fa, XBadFormat, XOutOfRange, XOutOfBits, XBadOctets, XBadHeader, TG_KINDS, TG_REF_COUNTS, TG_REF_COUNTS_0, TG_REF_COUNTS_1, TG_REF_COUNTS_2, fa⟩ : Ads).c_BitReader "left" (sp_BitReader_left K ⟨TD_PictureHeader___init___store, TD_PictureHeader___init___refs, CBitWriter, CBitReader, CFormat, CSettings, CPictureHeader, CSliceHeader, fa, XBadFormat, XOutOfRange, XOutOfBits, XBadOctets, XBadHeader, TG_KINDS, TG_REF_COUNTS, TG_REF_COUNTS_0, TG_REF_COUNTS_1, TG_REF_COUNTS_2, fa⟩) pats_BitReader_left := fun base => ok_BitReader_left D_26 T 
  have R_read_slice : ∀ base : Heap, CalX l.prog w K mg base 6 "read_slice" (sp_read_slice K ⟨TD_PictureHeader___init___store, TD_PictureHeader___init___refs, CBitWriter, CBitReader, CFormat, CSettings, CPictureHeader, CSliceHeader, fa, XBadFormat, XOutOfRange, XOutOfBits, XBadOctets, XBadHeader, TG_KINDS, TG_REF_COUNTS, TG_REF_COUNTS_0, TG_REF_COUNTS_1, TG_REF_COUNTS_2, fa⟩) pats_read_slice := fun base => ok_read_slice D_27 T (R__require base) (R_BitReader___init__ base) (R__get_slice base) (R_BitReader_left base)
  have R__law_picture : ∀ base : Heap, CalX l.prog w K mg base 2 "_law_picture" (sp__law_picture K ⟨TD_PictureHeader___init___store, TD_PictureHeader___init___refs, CBitWriter, CBitReader, CFormat, CSettings, CPictureHeader, CSliceHeader, fa, XBadFormat, XOutOfRange, XOutOfBits, XBadOctets, XBadHeader, TG_KINDS, TG_REF_COUNTS, TG_REF_COUNTS_0, TG_REF_COUNTS_1, TG_REF_COUNTS_2, fa⟩) pats__law_picture := fun base => ok__law_picture D_28 T (R__law_draws base) (R__law_between base)
  have R__law_cell : ∀ base : Heap, CalX l.prog w K mg base 1 "_law_cell" (sp__law_cell K ⟨TD_PictureHeader___init___store, TD_PictureHeader___init___refs, CBitWriter, CBitReader, CFormat, CSettings, CPictureHeader, CSliceHeader, fa, XBadFormat, XOutOfRange, XOutOfBits, XBadOctets, XBadHeader, TG_KINDS, TG_REF_COUNTS, TG_REF_COUNTS_0, TG_REF_COUNTS_1, TG_REF_COUNTS_2, fa⟩) pats__law_cell := fun base => ok__law_cell D_29 T 
  have R_escape : ∀ base : Heap, CalX l.prog w K mg base 1 "escape" (sp_escape K ⟨TD_PictureHeader___init___store, TD_PictureHeader___init___refs, CBitWriter, CBitReader, CFormat, CSettings, CPictureHeader, CSliceHeader, fa, XBadFormat, XOutOfRange, XOutOfBits, XBadOctets, XBadHeader, TG_KINDS, TG_REF_COUNTS, TG_REF_COUNTS_0, TG_REF_COUNTS_1, TG_REF_COUNTS_2, fa⟩) pats_escape := fun base => ok_escape D_30 T 
  have R_write_unit : ∀ base : Heap, CalX l.prog w K mg base 2 "write_unit" (sp_write_unit K ⟨TD_PictureHeader___init___store, TD_PictureHeader___init___refs, CBitWriter, CBitReader, CFormat, CSettings, CPictureHeader, CSliceHeader, fa, XBadFormat, XOutOfRange, XOutOfBits, XBadOctets, XBadHeader, TG_KINDS, TG_REF_COUNTS, TG_REF_COUNTS_0, TG_REF_COUNTS_1, TG_REF_COUNTS_2, fa⟩) pats_write_unit := fun base => ok_write_unit D_31 T (R_escape base)
  have R__law_long : ∀ base : Heap, CalX l.prog w K mg base 5 "_law_long" (sp__law_long K ⟨TD_PictureHeader___init___store, TD_PictureHeader___init___refs, CBitWriter, CBitReader, CFormat, CSettings, CPictureHeader, CSliceHeader, fa, XBadFormat, XOutOfRange, XOutOfBits, XBadOctets, XBadHeader, TG_KINDS, TG_REF_COUNTS, TG_REF_COUNTS_0, TG_REF_COUNTS_1, TG_REF_COUNTS_2, fa⟩) pats__law_long := fun base => ok__law_long D_32 T (R_write_slice base) (R_write_unit base)
  have R_clip : ∀ base : Heap, CalX l.prog w K mg base 1 "clip" (sp_clip K ⟨TD_PictureHeader___init___store, TD_PictureHeader___init___refs, CBitWriter, CBitReader, CFormat, CSettings, CPictureHeader, CSliceHeader, fa, XBadFormat, XOutOfRange, XOutOfBits, XBadOctets, XBadHeader, TG_KINDS, TG_REF_COUNTS, TG_REF_COUNTS_0, TG_REF_COUNTS_1, TG_REF_COUNTS_2, fa⟩) pats_clip := fun base => ok_clip D_33 T 
  have R_level_with : ∀ base : Heap, CalX l.prog w K mg base 2 "level_with" (sp_level_with K ⟨TD_PictureHeader___init___store, TD_PictureHeader___init___refs, CBitWriter, CBitReader, CFormat, CSettings, CPictureHeader, CSliceHeader, fa, XBadFormat, XOutOfRange, XOutOfBits, XBadOctets, XBadHeader, TG_KINDS, TG_REF_COUNTS, TG_REF_COUNTS_0, TG_REF_COUNTS_1, TG_REF_COUNTS_2, fa⟩) pats_level_with := fun base => ok_level_with D_34 T (R_clip base)
  have R_slice_level : ∀ base : Heap, CalX l.prog w K mg base 3 "slice_level" (sp_slice_level K ⟨TD_PictureHeader___init___store, TD_PictureHeader___init___refs, CBitWriter, CBitReader, CFormat, CSettings, CPictureHeader, CSliceHeader, fa, XBadFormat, XOutOfRange, XOutOfBits, XBadOctets, XBadHeader, TG_KINDS, TG_REF_COUNTS, TG_REF_COUNTS_0, TG_REF_COUNTS_1, TG_REF_COUNTS_2, fa⟩) pats_slice_level := fun base => ok_slice_level D_35 T (R_level_with base)
  have R__law_bits : ∀ base : Heap, CalX l.prog w K mg base 1 "_law_bits" (sp__law_bits K ⟨TD_PictureHeader___init___store, TD_PictureHeader___init___refs, CBitWriter, CBitReader, CFormat, CSettings, CPictureHeader, CSliceHeader, fa, XBadFormat, XOutOfRange, XOutOfBits, XBadOctets, XBadHeader, TG_KINDS, TG_REF_COUNTS, TG_REF_COUNTS_0, TG_REF_COUNTS_1, TG_REF_COUNTS_2, fa⟩) pats__law_bits := fun base => ok__law_bits D_36 T 
  have R__law_ue : ∀ base : Heap, CalX l.prog w K mg base 2 "_law_ue" (sp__law_ue K ⟨TD_PictureHeader___init___store, TD_PictureHeader___init___refs, CBitWriter, CBitReader, CFormat, CSettings, CPictureHeader, CSliceHeader, fa, XBadFormat, XOutOfRange, XOutOfBits, XBadOctets, XBadHeader, TG_KINDS, TG_REF_COUNTS, TG_REF_COUNTS_0, TG_REF_COUNTS_1, TG_REF_COUNTS_2, fa⟩) pats__law_ue := fun base => ok__law_ue D_37 T (R__law_bits base)
  have R__law_se : ∀ base : Heap, CalX l.prog w K mg base 3 "_law_se" (sp__law_se K ⟨TD_PictureHeader___init___store, TD_PictureHeader___init___refs, CBitWriter, CBitReader, CFormat, CSettings, CPictureHeader, CSliceHeader, fa, XBadFormat, XOutOfRange, XOutOfBits, XBadOctets, XBadHeader, TG_KINDS, TG_REF_COUNTS, TG_REF_COUNTS_0, TG_REF_COUNTS_1, TG_REF_COUNTS_2, fa⟩) pats__law_se := fun base => ok__law_se D_38 T (R__law_ue base)
  have R__check_numbers : ∀ base : Heap, CalX l.prog w K mg base 2 "_check_numbers" (sp__check_numbers K ⟨TD_PictureHeader___init___store, TD_PictureHeader___init___refs, CBitWriter, CBitReader, CFormat, CSettings, CPictureHeader, CSliceHeader, fa, XBadFormat, XOutOfRange, XOutOfBits, XBadOctets, XBadHeader, TG_KINDS, TG_REF_COUNTS, TG_REF_COUNTS_0, TG_REF_COUNTS_1, TG_REF_COUNTS_2, fa⟩) pats__check_numbers := fun base => ok__check_numbers D_39 T (R__require base)
  have R__check_slots : ∀ base : Heap, CalX l.prog w K mg base 2 "_check_slots" (sp__check_slots K ⟨TD_PictureHeader___init___store, TD_PictureHeader___init___refs, CBitWriter, CBitReader, CFormat, CSettings, CPictureHeader, CSliceHeader, fa, XBadFormat, XOutOfRange, XOutOfBits, XBadOctets, XBadHeader, TG_KINDS, TG_REF_COUNTS, TG_REF_COUNTS_0, TG_REF_COUNTS_1, TG_REF_COUNTS_2, fa⟩) pats__check_slots := fun base => ok__check_slots D_40 T (R__require base)
  have R_PictureHeader___init__ : ∀ base : Heap, MakX l.prog w K mg base 3 "PictureHeader" (⟨TD_PictureHeader___init___store, TD_PictureHeader___init___refs, CBitWriter, CBitReader, CFormat, CSettings, CPictureHeader, CSliceHeader, fa, XBadFormat, XOutOfRange, XOutOfBits, XBadOctets, XBadHeader, TG_KINDS, TG_REF_COUNTS, TG_REF_COUNTS_0, TG_REF_COUNTS_1, TG_REF_COUNTS_2, fa⟩ : Ads).c_PictureHeader (sp_PictureHeader___init__ K ⟨TD_PictureHeader___init___store, TD_PictureHeader___init___refs, CBitWriter, CBitReader, CFormat, CSettings, CPictureHeader, CSliceHeader, fa, XBadFormat, XOutOfRange, XOutOfBits, XBadOctets, XBadHeader, TG_KINDS, TG_REF_COUNTS, TG_REF_COUNTS_0, TG_REF_COUNTS_1, TG_REF_COUNTS_2, fa⟩) (pats_PictureHeader___init__ ⟨TD_PictureHeader___init___store, TD_PictureHeader___init___refs, CBitWriter, CBitReader, CFormat, CSettings, CPictureHeader, CSliceHeader, fa, XBadFormat, XOutOfRange, XOutOfBits, XBadOctets, XBadHeader, TG_KINDS, TG_REF_COUNTS, TG_REF_COUNTS_0, TG_REF_COUNTS_1, TG_REF_COUNTS_2, fa⟩) := fun base => ok_PictureHeader___init__ D_41 T (R__check_numbers base) (R__check_slots base)
  have R__law_header : ∀ base : Heap, CalX l.prog w K mg base 5 "_law_header" (sp__law_header K ⟨TD_PictureHeader___init___store, TD_PictureHeader___init___refs, CBitWriter, CBitReader, CFormat, CSettings, CPictureHeader, CSliceHeader, fa, XBadFormat, XOutOfRange, XOutOfBits, XBadOctets, XBadHeader, TG_KINDS, TG_REF_COUNTS, TG_REF_COUNTS_0, TG_REF_COUNTS_1, TG_REF_COUNTS_2, fa⟩) pats__law_header := fun base => ok__law_header D_42 T (R_PictureHeader___init__ base)

  refine ⟨PySem.W.fnOf "law" "law" (defArgs s_law) (defBody s_law) (defScope s_law) .none kV43 dc43 pm43 an43 cd43 ct43, fun s v => .of_eq rfl, fun base _ _ => (ok_law (AD := ⟨TD_PictureHeader___init___store, TD_PictureHeader___init___refs, CBitWriter, CBitReader, CFormat, CSettings, CPictureHeader, CSliceHeader, fa, XBadFormat, XOutOfRange, XOutOfBits, XBadOctets, XBadHeader, TG_KINDS, TG_REF_COUNTS, TG_REF_COUNTS_0, TG_REF_COUNTS_1, TG_REF_COUNTS_2, fa⟩) F43 T (R__law_numbers base) (R__law_cell base) (R__law_settings base) (R__law_draws base) (R__law_between base) (R_SliceHeader___init__ base) (R_Settings_slices base) (R__law_packed base) (R__law_ue base) (R__law_se base) (R_write_slice base) (R_read_slice base) (R_SliceHeader___eq__ base) (R__law_long base) (R__law_picture base) (R_slice_level base) (R__law_header base)).imp ?_⟩
  rintro vs H Q E ⟨a, xs, rfl, hs, hl, q⟩
  exact ⟨a, xs, rfl, hs, by rw [law_true xs hl]; exact cW_mk rfl, q⟩
end Vx
open PySem PySem.W PyProof.Rows
set_option maxRecDepth 100000 in
set_option maxHeartbeats 0 in
theorem PySem.Challenge.cw_thaumatrope_k22_slices_written_and_read_holds : PySem.Challenge.rw_thaumatrope_k22_slices_written_and_read.Holds := by
  w_on; o_law; k_head; (case hw => w_witness2)
  k_fill
  refine Vx.walkG (l := PySem.Challenge.rw_thaumatrope_k22_slices_written_and_read) (n := 63) (k := 7) (x := "script") rfl (by decide) rfl ⟨rfl, by decide, by decide⟩ (fun w h Y => PySem.W.kIn_of Y) ?F
  case F =>
    intro w mg fa h KX G hmg
    refine' Vx.all_mk KX G hmg ?wBitWriter ?wBitReader ?wFormat ?wSettings ?wPictureHeader ?wSliceHeader ?vBadFormat ?vOutOfRange ?vOutOfBits ?vBadOctets ?vBadHeader ?a0 ?l0 ?c0 ?k0 ?a1 ?l1 ?c1 ?k1 ?a2 ?l2 ?c2 ?k2 ?a3 ?b3 ?d3 ?e3 ?l3 ?c3 ?k3 ?kd3_0 ?kd3_1 ?a4 ?l4 ?c4 ?k4 ?a5 ?b5 ?d5 ?e5 ?l5 ?c5 ?k5 ?kd5_0 ?kd5_1 ?kd5_2 ?kd5_3 ?kd5_4 ?a6 ?l6 ?c6 ?k6 ?a7 ?b7 ?l7 ?c7 ?k7 ?a8 ?b8 ?l8 ?c8 ?k8 ?a9 ?b9 ?d9 ?e9 ?l9 ?c9 ?k9 ?kd9_0 ?a10 ?b10 ?l10 ?c10 ?k10 ?a11 ?l11 ?c11 ?k11 ?a12 ?b12 ?d12 ?e12 ?l12 ?c12 ?k12 ?a13 ?b13 ?l13 ?c13 ?k13 ?a14 ?b14 ?l14 ?c14 ?k14 ?a15 ?b15 ?l15 ?c15 ?k15 ?a16 ?b16 ?l16 ?c16 ?k16 ?a17 ?l17 ?c17 ?k17 ?a18 ?l18 ?c18 ?k18 ?a19 ?b19 ?d19 ?e19 ?l19 ?c19 ?k19 ?a20 ?b20 ?l20 ?c20 ?k20 ?a21 ?b21 ?l21 ?c21 ?k21 ?a22 ?b22 ?l22 ?c22 ?k22 ?a23 ?b23 ?l23 ?c23 ?k23 ?a24 ?b24 ?l24 ?c24 ?k24 ?a25 ?l25 ?c25 ?k25 ?a26 ?b26 ?d26 ?e26 ?l26 ?c26 ?k26 ?a27 ?l27 ?c27 ?k27 ?a28 ?l28 ?c28 ?k28 ?a29 ?l29 ?c29 ?k29 ?a30 ?l30 ?c30 ?k30 ?a31 ?l31 ?c31 ?k31 ?a32 ?l32 ?c32 ?k32 ?a33 ?l33 ?c33 ?k33 ?a34 ?l34 ?c34 ?k34 ?a35 ?l35 ?c35 ?k35 ?a36 ?l36 ?c36 ?k36 ?a37 ?l37 ?c37 ?k37 ?a38 ?l38 ?c38 ?k38 ?a39 ?l39 ?c39 ?k39 ?a40 ?l40 ?c40 ?k40 ?a41 ?b41 ?d41 ?e41 ?l41 ?c41 ?k41 ?kd41_0 ?kd41_1 ?kd41_2 ?kd41_3 ?kd41_4 ?kd41_5 ?kd41_6 ?kd41_7 ?a42 ?l42 ?c42 ?k42 ?a43 ?l43 ?c43 ?k43 ?z0 ?z1 ?z2 ?z3 ?z4 ?z5 ?z6 ?z7 ?z8 ?z9 ?z10 ?z11 ?z12 ?z13 ?z14 ?z15 ?z16 ?z17 ?z18 ?y18 ?z19 ?z20 ?z21 ?z22 ?y22 ?u22_0 ?u22_1 ?u22_2 ?y22_2 ?y22_1 ?y22_0 ?z23 ?ytPictureHeader___init___store ?ytPictureHeader___init___refs ?yFormat0 ?yFormat1 ?yFormat2 ?yFormat3 ?xFormat0 ?xFormat1 ?xFormat2 ?xFormat3 ?ySettings0 ?ySettings1 ?ySettings2 ?ySettings3 ?xSettings0 ?xSettings1 ?xSettings2 ?xSettings3 ?xSettings4 ?xSettings5 ?ySliceHeader0 ?ySliceHeader1 ?ySliceHeader2 ?ySliceHeader3 ?iSliceHeader0 ?iSliceHeader1 ?iSliceHeader2 ?iSliceHeader3 ?xSliceHeader0 ?xSliceHeader1 ?xSliceHeader2 ?yBitWriter0 ?yBitWriter1 ?yBitWriter2 ?yBitWriter3 ?xBitWriter0 ?xBitWriter1 ?xBitWriter2 ?yBitReader0 ?yBitReader1 ?yBitReader2 ?yBitReader3 ?xBitReader0 ?xBitReader1 ?xBitReader2 ?yPictureHeader0 ?yPictureHeader1 ?yPictureHeader2 ?yPictureHeader3 ?xPictureHeader0 ?xPictureHeader1 ?xPictureHeader2 ?xPictureHeader3 ?xPictureHeader4 ?xPictureHeader5 ?xPictureHeader6 ?xPictureHeader7 ?xPictureHeader8 ?exBadFormat ?ekBadFormat ?ebBadFormat ?etBadFormat ?exBadHeader ?ekBadHeader ?ebBadHeader ?etBadHeader ?exOutOfRange ?ekOutOfRange ?ebOutOfRange ?etOutOfRange ?exBadOctets ?ekBadOctets ?ebBadOctets ?etBadOctets ?exOutOfBits ?ekOutOfBits ?ebOutOfBits ?etOutOfBits ?eiOutOfRangeOutOfRange ?esOutOfRangeOutOfRange ?ebOutOfRangeValueError ?c1OutOfRange ?c2OutOfRange ?c3OutOfRange ?c4OutOfRange ?c5OutOfRange ?c6OutOfRange ?c7OutOfRange
    (case wBitWriter => k_is)
    (case wBitReader => k_is)
    (case wFormat => k_is)
    (case wSettings => k_is)
    (case wPictureHeader => k_is)
    (case wSliceHeader => k_is)
    (case vBadFormat => k_is)
    (case vOutOfRange => k_is)
    (case vOutOfBits => k_is)
    (case vBadOctets => k_is)
    (case vBadHeader => k_is)
    (case a0 => k_is)
    (case l0 => k_is)
    (case c0 => k_is)
    (case k0 => k_is)
    (case a1 => k_is)
    (case l1 => k_is)
    (case c1 => k_is)
    (case k1 => k_is)
    (case a2 => k_is)
    (case l2 => k_is)
    (case c2 => k_is)
    (case k2 => k_is)
    (case a3 => k_is)
    (case b3 => k_is)
    (case d3 => k_is)
    (case e3 => k_is)
    (case l3 => k_is)
    (case c3 => k_is)
    (case k3 => k_is)
    (case kd3_0 => k_is)
    (case kd3_1 => k_is)
    (case a4 => k_is)
    (case l4 => k_is)
    (case c4 => k_is)
    (case k4 => k_is)
    (case a5 => k_is)
    (case b5 => k_is)
    (case d5 => k_is)
    (case e5 => k_is)
    (case l5 => k_is)
    (case c5 => k_is)
    (case k5 => k_is)
    (case kd5_0 => k_is)
    (case kd5_1 => k_is)
    (case kd5_2 => k_is)
    (case kd5_3 => k_is)
    (case kd5_4 => k_is)
    (case a6 => k_is)
    (case l6 => k_is)
    (case c6 => k_is)
    (case k6 => k_is)
    (case a7 => k_is)
    (case b7 => k_is)
    (case l7 => k_is)
    (case c7 => k_is)
    (case k7 => k_is)
    (case a8 => k_is)
    (case b8 => k_is)
    (case l8 => k_is)
    (case c8 => k_is)
    (case k8 => k_is)
    (case a9 => k_is)
    (case b9 => k_is)
    (case d9 => k_is)
    (case e9 => k_is)
    (case l9 => k_is)
    (case c9 => k_is)
    (case k9 => k_is)
    (case kd9_0 => k_is)
    (case a10 => k_is)
    (case b10 => k_is)
    (case l10 => k_is)
    (case c10 => k_is)
    (case k10 => k_is)
    (case a11 => k_is)
    (case l11 => k_is)
    (case c11 => k_is)
    (case k11 => k_is)
    (case a12 => k_is)
    (case b12 => k_is)
    (case d12 => k_is)
    (case e12 => k_is)
    (case l12 => k_is)
    (case c12 => k_is)
    (case k12 => k_is)
    (case a13 => k_is)
    (case b13 => k_is)
    (case l13 => k_is)
    (case c13 => k_is)
    (case k13 => k_is)
    (case a14 => k_is)
    (case b14 => k_is)
    (case l14 => k_is)
    (case c14 => k_is)
    (case k14 => k_is)
    (case a15 => k_is)
    (case b15 => k_is)
    (case l15 => k_is)
    (case c15 => k_is)
    (case k15 => k_is)
    (case a16 => k_is)
    (case b16 => k_is)
    (case l16 => k_is)
    (case c16 => k_is)
    (case k16 => k_is)
    (case a17 => k_is)
    (case l17 => k_is)
    (case c17 => k_is)
    (case k17 => k_is)
    (case a18 => k_is)
    (case l18 => k_is)
    (case c18 => k_is)
    (case k18 => k_is)
    (case a19 => k_is)
    (case b19 => k_is)
    (case d19 => k_is)
    (case e19 => k_is)
    (case l19 => k_is)
    (case c19 => k_is)
    (case k19 => k_is)
    (case a20 => k_is)
    (case b20 => k_is)
    (case l20 => k_is)
    (case c20 => k_is)
    (case k20 => k_is)
    (case a21 => k_is)
    (case b21 => k_is)
    (case l21 => k_is)
    (case c21 => k_is)
    (case k21 => k_is)
    (case a22 => k_is)
    (case b22 => k_is)
    (case l22 => k_is)
    (case c22 => k_is)
    (case k22 => k_is)
    (case a23 => k_is)
    (case b23 => k_is)
    (case l23 => k_is)
    (case c23 => k_is)
    (case k23 => k_is)
    (case a24 => k_is)
    (case b24 => k_is)
    (case l24 => k_is)
    (case c24 => k_is)
    (case k24 => k_is)
    (case a25 => k_is)
    (case l25 => k_is)
    (case c25 => k_is)
    (case k25 => k_is)
    (case a26 => k_is)
    (case b26 => k_is)
    (case d26 => k_is)
    (case e26 => k_is)
    (case l26 => k_is)
    (case c26 => k_is)
    (case k26 => k_is)
    (case a27 => k_is)
    (case l27 => k_is)
    (case c27 => k_is)
    (case k27 => k_is)
    (case a28 => k_is)
    (case l28 => k_is)
    (case c28 => k_is)
    (case k28 => k_is)
    (case a29 => k_is)
    (case l29 => k_is)
    (case c29 => k_is)
    (case k29 => k_is)
    (case a30 => k_is)
    (case l30 => k_is)
    (case c30 => k_is)
    (case k30 => k_is)
    (case a31 => k_is)
    (case l31 => k_is)
    (case c31 => k_is)
    (case k31 => k_is)
    (case a32 => k_is)
    (case l32 => k_is)
    (case c32 => k_is)
    (case k32 => k_is)
    (case a33 => k_is)
    (case l33 => k_is)
    (case c33 => k_is)
    (case k33 => k_is)
    (case a34 => k_is)
    (case l34 => k_is)
    (case c34 => k_is)
    (case k34 => k_is)
    (case a35 => k_is)
    (case l35 => k_is)
    (case c35 => k_is)
    (case k35 => k_is)
    (case a36 => k_is)
    (case l36 => k_is)
    (case c36 => k_is)
    (case k36 => k_is)
    (case a37 => k_is)
    (case l37 => k_is)
    (case c37 => k_is)
    (case k37 => k_is)
    (case a38 => k_is)
    (case l38 => k_is)
    (case c38 => k_is)
    (case k38 => k_is)
    (case a39 => k_is)
    (case l39 => k_is)
    (case c39 => k_is)
    (case k39 => k_is)
    (case a40 => k_is)
    (case l40 => k_is)
    (case c40 => k_is)
    (case k40 => k_is)
    (case a41 => k_is)
    (case b41 => k_is)
    (case d41 => k_is)
    (case e41 => k_is)
    (case l41 => k_is)
    (case c41 => k_is)
    (case k41 => k_is)
    (case kd41_0 => k_is)
    (case kd41_1 => k_is)
    (case kd41_2 => k_is)
    (case kd41_3 => k_is)
    (case kd41_4 => k_is)
    (case kd41_5 => k_is)
    (case kd41_6 => k_is)
    (case kd41_7 => k_is)
    (case a42 => k_is)
    (case l42 => k_is)
    (case c42 => k_is)
    (case k42 => k_is)
    (case a43 => k_is)
    (case l43 => k_is)
    (case c43 => k_is)
    (case k43 => k_is)
    (case z0 => k_is)
    (case z1 => k_is)
    (case z2 => k_is)
    (case z3 => k_is)
    (case z4 => k_is)
    (case z5 => k_is)
    (case z6 => k_is)
    (case z7 => k_is)
    (case z8 => k_is)
    (case z9 => k_is)
    (case z10 => k_is)
    (case z11 => k_is)
    (case z12 => k_is)
    (case z13 => k_is)
    (case z14 => k_is)
    (case z15 => k_is)
    (case z16 => k_is)
    (case z17 => k_is)
    (case z18 => k_is)
    (case y18 => k_is)
    (case z19 => k_is)
    (case z20 => k_is)
    (case z21 => k_is)
    (case z22 => k_is)
    (case y22 => k_is)
    (case u22_0 => rfl)
    (case u22_1 => rfl)
    (case u22_2 => rfl)
    (case y22_2 => k_is)
    (case y22_1 => k_is)
    (case y22_0 => k_is)
    (case z23 => k_is)
    (case ytPictureHeader___init___store => k_is)
    (case ytPictureHeader___init___refs => k_is)
    (case yFormat0 => k_is)
    (case yFormat1 => k_is)
    (case yFormat2 => k_is)
    (case yFormat3 => k_is)
    (case xFormat0 => k_is)
    (case xFormat1 => k_is)
    (case xFormat2 => k_is)
    (case xFormat3 => k_is)
    (case ySettings0 => k_is)
    (case ySettings1 => k_is)
    (case ySettings2 => k_is)
    (case ySettings3 => k_is)
    (case xSettings0 => k_is)
    (case xSettings1 => k_is)
    (case xSettings2 => k_is)
    (case xSettings3 => k_is)
    (case xSettings4 => k_is)
    (case xSettings5 => k_is)
    (case ySliceHeader0 => k_is)
    (case ySliceHeader1 => k_is)
    (case ySliceHeader2 => k_is)
    (case ySliceHeader3 => k_is)
    (case iSliceHeader0 => k_is)
    (case iSliceHeader1 => k_is)
    (case iSliceHeader2 => k_is)
    (case iSliceHeader3 => k_is)
    (case xSliceHeader0 => k_is)
    (case xSliceHeader1 => k_is)
    (case xSliceHeader2 => k_is)
    (case yBitWriter0 => k_is)
    (case yBitWriter1 => k_is)
    (case yBitWriter2 => k_is)
    (case yBitWriter3 => k_is)
    (case xBitWriter0 => k_is)
    (case xBitWriter1 => k_is)
    (case xBitWriter2 => k_is)
    (case yBitReader0 => k_is)
    (case yBitReader1 => k_is)
    (case yBitReader2 => k_is)
    (case yBitReader3 => k_is)
    (case xBitReader0 => k_is)
    (case xBitReader1 => k_is)
    (case xBitReader2 => k_is)
    (case yPictureHeader0 => k_is)
    (case yPictureHeader1 => k_is)
    (case yPictureHeader2 => k_is)
    (case yPictureHeader3 => k_is)
    (case xPictureHeader0 => k_is)
    (case xPictureHeader1 => k_is)
    (case xPictureHeader2 => k_is)
    (case xPictureHeader3 => k_is)
    (case xPictureHeader4 => k_is)
    (case xPictureHeader5 => k_is)
    (case xPictureHeader6 => k_is)
    (case xPictureHeader7 => k_is)
    (case xPictureHeader8 => k_is)
    (case exBadFormat => k_exc)
    (case ekBadFormat => k_is)
    (case ebBadFormat => k_is)
    (case etBadFormat => k_is)
    (case exBadHeader => k_exc)
    (case ekBadHeader => k_is)
    (case ebBadHeader => k_is)
    (case etBadHeader => k_is)
    (case exOutOfRange => k_exc)
    (case ekOutOfRange => k_is)
    (case ebOutOfRange => k_is)
    (case etOutOfRange => k_is)
    (case exBadOctets => k_exc)
    (case ekBadOctets => k_is)
    (case ebBadOctets => k_is)
    (case etBadOctets => k_is)
    (case exOutOfBits => k_exc)
    (case ekOutOfBits => k_is)
    (case ebOutOfBits => k_is)
    (case etOutOfBits => k_is)
    (case eiOutOfRangeOutOfRange => k_is)
    (case esOutOfRangeOutOfRange => first | rfl | k_is)
    (case ebOutOfRangeValueError => first | rfl | k_is)
    (case c1OutOfRange => k_is)
    (case c2OutOfRange => k_is)
    (case c3OutOfRange => k_is)
    (case c4OutOfRange => k_is)
    (case c5OutOfRange => k_is)
    (case c6OutOfRange => k_is)
    (case c7OutOfRange => k_is)
