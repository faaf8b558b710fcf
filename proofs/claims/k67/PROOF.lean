import PyProof.Rows.All
import Wide.All
import OpenK.AllK
import Wide.FinOn
import HandS.ForMost
import HandS.Codes
import HandS.Steps
import HandS.IsInst
import HandS.Property
import HandS.Wide
import HandS.WideBits
import HandS.Exc
import HandS.Defaults
import HandS.ExcOwn
import HandS.TryOnly
import HandS.WordsExc
import HandS.ExcIs
import HandS.MakeKwOnly
import HandS.RaiseMore
import HandS.Style
import HandS.Zip
import HandS.Iter
import HandS.Walk
import HandS.More
import PySem.Challenge.RW_thaumatrope_k67_prices_and_near_vectors
set_option Elab.async false
set_option linter.all false
set_option maxRecDepth 100000
set_option maxHeartbeats 8000000
namespace Vx
open PySem PySem.Spec PyProof.Rows L2

/-! ### heaps -/
def SameX (m : Addr) (H H' : Hp) : Prop := ∀ b o, H b = some o → b ≠ m → H' b = some o
theorem gen_new {H H' : Hp} {p : Addr} {o : HO} (n : H p = none) (h : upd H p o = H') : Same H H' ∧ H' p = some o := by
  subst h
  exact ⟨fun b u e => by rw [upd_ne (ne_of_none e n)]; exact e, upd_same⟩
theorem gen_mut {H H' : Hp} {m : Addr} {o : HO} (h : upd H m o = H') : SameX m H H' ∧ H' m = some o := by
  subst h
  exact ⟨fun b u e n => by rw [upd_ne n]; exact e, upd_same⟩
theorem same_mut {H0 H H' : Hp} {m : Addr} (B : Same H0 H) (x : SameX m H H') (f : H0 m = none) : Same H0 H' :=
  fun b o e => x b o (B b o e) (ne_of_none e f)
theorem map_get {xs : List Int} {i : Nat} {x : V} (h : (xs.map V.int)[i]? = some x) : ∃ o, xs[i]? = some o ∧ x = .int o := by
  rw [List.getElem?_map] at h
  cases e : xs[i]? with
  | none => rw [e] at h; cases h
  | some z => rw [e] at h; exact ⟨z, rfl, (Option.some.inj h).symm⟩
theorem get_len {α : Type} {xs : List α} {i : Nat} {x : α} (h : xs[i]? = some x) : i < xs.length := (List.getElem?_eq_some_iff.mp h).1
theorem eq_int {Q : VK} {H : Hp} {a b : Int} (h : Q (.int a) H) (e : a = b) : Q (.int b) H := e ▸ h
theorem eq_bl {Q : VK} {H : Hp} {a b : Bool} (h : Q (.bl a) H) (e : a = b) : Q (.bl b) H := e ▸ h
theorem small {n : Nat} (h : n ≤ 1000000) : n < sizeLine := Nat.lt_of_le_of_lt h (by decide)
theorem smallE {n : Nat} (h : n ≤ 1000000) : n ≤ sizeLine := Nat.le_of_lt (small h)
theorem snoc_int {xs : List Int} {y : Int} {H : Hp} {p : Addr} (h : H p = some (.lst (xs.map V.int ++ [V.int y]))) : H p = some (.lst ((xs ++ [y]).map V.int)) := by
  rw [List.map_append]; exact h
theorem cat_int {xs ys : List Int} {H : Hp} {p : Addr} (h : H p = some (.lst (xs.map V.int ++ ys.map V.int))) : H p = some (.lst ((xs ++ ys).map V.int)) := by
  rw [List.map_append]; exact h
theorem cast_lst {xs ys : List Int} {H : Hp} {p : Addr} (h : H p = some (.lst (xs.map V.int))) (e : xs = ys) : H p = some (.lst (ys.map V.int)) := e ▸ h

/-! ### tests -/
theorem dT {p : Prop} [Decidable p] (h : decide p = true) : p := of_decide_eq_true h
theorem dF {p : Prop} [Decidable p] (h : ¬ decide p = true) : ¬ p := fun x => h (decide_eq_true x)
theorem iteD {p A B : Prop} [Decidable p] (h1 : p → A) (h2 : ¬ p → B) : if decide p = true then A else B := by
  by_cases h : p
  · rw [if_pos (decide_eq_true h)]; exact h1 h
  · rw [if_neg (fun x => h (of_decide_eq_true x))]; exact h2 h
theorem iteN {p A B : Prop} [Decidable p] (h1 : ¬ p → A) (h2 : p → B) : if (!decide p) = true then A else B := by
  by_cases h : p
  · rw [decide_eq_true h]; exact iteF (h2 h)
  · rw [decide_eq_false h]; exact iteT (h1 h)
theorem iteB {b : Bool} {A B : Prop} (h1 : b = true → A) (h2 : b = false → B) : if b = true then A else B := by
  cases b with
  | true => exact iteT (h1 rfl)
  | false => exact iteF (h2 rfl)
theorem iteBN {b : Bool} {A B : Prop} (h1 : b = false → A) (h2 : b = true → B) : if (!b) = true then A else B := by
  cases b with
  | true => exact iteF (h2 rfl)
  | false => exact iteT (h1 rfl)
theorem iteDT {p A B : Prop} [Decidable p] (h : p) (k : A) : if decide p = true then A else B := by
  rw [if_pos (decide_eq_true h)]; exact k
theorem iteDF {p A B : Prop} [Decidable p] (h : ¬ p) (k : B) : if decide p = true then A else B := by
  rw [if_neg (fun x => h (of_decide_eq_true x))]; exact k
theorem iteNT {p A B : Prop} [Decidable p] (h : ¬ p) (k : A) : if (!decide p) = true then A else B := iteN (fun _ => k) (fun x => (h x).elim)
theorem iteNF {p A B : Prop} [Decidable p] (h : p) (k : B) : if (!decide p) = true then A else B := iteN (fun x => (x h).elim) (fun _ => k)

/-! ### equality of lists of ints -/
theorem eqvAll_ints : ∀ xs ys : List Int, PyData.eqvAll (xs.map PyData.int) (ys.map PyData.int) = decide (xs = ys)
  | [], [] => by simp [PyData.eqvAll]
  | [], y :: ys => by simp [PyData.eqvAll]
  | x :: xs, [] => by simp [PyData.eqvAll]
  | x :: xs, y :: ys => by
    have ih := eqvAll_ints xs ys
    simp only [List.map_cons, PyData.eqvAll, PyData.eqv, ih]
    by_cases h : x = y <;> by_cases h2 : xs = ys <;> simp [h, h2]
end Vx

namespace Vx
open PySem PySem.Spec PyProof.Rows L2
section
variable {X : Cx}
def rEqLi (K : PySem.W.Frag) : R2 := fun x y H Q => ∃ (a b : Addr) (xs ys : List Int), x = .ref a ∧ y = .ref b ∧ SqL K H a (xs.map V.int) ∧ SqL K H b (ys.map V.int) ∧ Q (.bl (decide (xs = ys))) H
def rNeLi (K : PySem.W.Frag) : R2 := fun x y H Q => ∃ (a b : Addr) (xs ys : List Int), x = .ref a ∧ y = .ref b ∧ SqL K H a (xs.map V.int) ∧ SqL K H b (ys.map V.int) ∧ Q (.bl (!decide (xs = ys))) H
theorem dpAll_ints {K : PySem.W.Frag} {H : Hp} : ∀ xs : List Int, DpAll K H (xs.map V.int) (xs.map PyData.int)
  | [] => .nil
  | x :: xs => .cons (.int x) (dpAll_ints xs)
theorem dp_ints {K : PySem.W.Frag} {H : Hp} {a : Addr} {xs : List Int} (h : SqL K H a (xs.map V.int)) : Dp K H (.ref a) (.list (xs.map PyData.int)) := .lst h (dpAll_ints xs)
theorem canLay_ints : ∀ xs : List Int, PyData.canLayAll0 (xs.map PyData.int) = true
  | [] => by simp [PyData.canLayAll0]
  | x :: xs => by simp [PyData.canLayAll0, PyData.canLay0, canLay_ints xs]
theorem depth_ints : ∀ xs : List Int, PyData.depthAll (xs.map PyData.int) = 0
  | [] => by simp [PyData.depthAll]
  | x :: xs => by simp [PyData.depthAll, PyData.depth, depth_ints xs]
theorem shaped_ints (xs : List Int) : SeqAt.shaped (.list (xs.map PyData.int)) = true := by
  unfold SeqAt.shaped
  simp [PyData.canLay0, canLay_ints, PyData.depth, depth_ints]
theorem eqv_ints (xs ys : List Int) : PyData.eqv (.list (xs.map PyData.int)) (.list (ys.map PyData.int)) = decide (xs = ys) := by
  simp only [PyData.eqv]
  exact eqvAll_ints xs ys
theorem op_eqLi (hu : X.A.units + 64 < cLine) : OpR X (compareOp .Eq) (rEqLi X.K) := by
  intro pins s σ H x y v u Q I rx ry h
  obtain ⟨a, b, xs, ys, rfl, rfl, h1, h2, q⟩ := h
  exact op_eqD hu pins s σ H _ _ v u Q I rx ry ⟨_, _, dp_ints h1, dp_ints h2, shaped_ints xs, shaped_ints ys, by rw [eqv_ints]; exact q⟩
theorem op_neLi (hu : X.A.units + 64 < cLine) : OpR X (compareOp .NotEq) (rNeLi X.K) := by
  intro pins s σ H x y v u Q I rx ry h
  obtain ⟨a, b, xs, ys, rfl, rfl, h1, h2, q⟩ := h
  exact op_neD hu pins s σ H _ _ v u Q I rx ry ⟨_, _, dp_ints h1, dp_ints h2, shaped_ints xs, shaped_ints ys, by rw [eqv_ints]; exact q⟩

/-! ### items, slices, repetition, comprehensions of ints -/
def itI (xs : List Int) (i : Int) : Int := (atI xs i).getD 0
theorem atI_int {xs : List Int} {i : Int} (h : -(xs.length : Int) ≤ i ∧ i < xs.length) : atI (xs.map V.int) i = some (.int (itI xs i)) := by
  unfold itI atI
  rw [List.length_map]
  have hk : ∃ j, ixN xs.length i = some j ∧ j < xs.length := by
    unfold ixN
    by_cases h0 : 0 ≤ i
    · refine ⟨i.toNat, ?_, by omega⟩
      rw [if_pos h0, if_pos h.2]
    · refine ⟨(i + xs.length).toNat, ?_, by omega⟩
      rw [if_neg h0, if_pos h.1]
  obtain ⟨j, e, hj⟩ := hk
  rw [e]
  show (xs.map V.int)[j]? = some (V.int ((xs[j]?).getD 0))
  rw [List.getElem?_map, List.getElem?_eq_getElem hj] <;> rfl
def cutI (xs : List Int) (lo hi : Option Int) : List Int := (xs.drop (HT.sIx xs.length 0 lo)).take (HT.sIx xs.length xs.length hi - HT.sIx xs.length 0 lo)
theorem cut_int {xs : List Int} {lo hi : Option Int} {H : Hp} {p : Addr} (h : H p = some (.lst (cutV (xs.map V.int) lo hi))) : H p = some (.lst ((cutI xs lo hi).map V.int)) := by
  rw [h]
  unfold cutV cutI
  rw [List.length_map, List.map_take, List.map_drop]
def rep (xs : List Int) (k : Int) : List Int := (List.replicate k.toNat xs).flatten
theorem rep_int {xs : List Int} {k : Int} {H : Hp} {p : Addr} (h : H p = some (.lst (List.replicate k.toNat (xs.map V.int)).flatten)) : H p = some (.lst ((rep xs k).map V.int)) := by
  rw [h]
  unfold rep
  rw [List.map_flatten, List.map_replicate]
theorem divW_lit {i j : Int} (h : 0 < j) (h2 : j.natAbs.log2 < 9000) : CDivW i j := ⟨h, h2⟩
theorem divW_small {i j : Int} (h : 0 < j) (h2 : j < 2 ^ 128) : CDivW i j := wide_div h (show j.natAbs < 2 ^ 128 by omega) (by decide) (by decide)
theorem comp_list {xs : List Int} {i : Nat} {x y : Int} {f : Int → Int} {H : Hp} {D : Addr} (hi : xs[i]? = some x) (h : H D = some (.lst (((xs.take i).map f).map V.int ++ [V.int y]))) (e : f x = y) : H D = some (.lst (((xs.take (i + 1)).map f).map V.int)) := by
  rw [h, ← e, List.take_succ, hi, List.map_append, List.map_append] <;> rfl
theorem comp_done {xs : List Int} {f : Int → Int} {H : Hp} {D : Addr} (h : H D = some (.lst (((xs.take (xs.map V.int).length).map f).map V.int))) : H D = some (.lst ((xs.map f).map V.int)) := by
  rw [List.length_map, List.take_length] at h
  exact h
theorem comp_range {i : Nat} {y : Int} {f : Nat → Int} {H : Hp} {D : Addr} (h : H D = some (.lst (((List.range i).map f).map V.int ++ [V.int y]))) (e : f i = y) : H D = some (.lst (((List.range (i + 1)).map f).map V.int)) := by
  rw [h, ← e, List.range_succ, List.map_append, List.map_append] <;> rfl
theorem iteBT {b : Bool} {A B : Prop} (h : b = true) (k : A) : if b = true then A else B := by rw [if_pos h]; exact k
theorem iteBF {b : Bool} {A B : Prop} (h : b = false) (k : B) : if b = true then A else B := by rw [if_neg (by rw [h]; decide)]; exact k
theorem take_succ_get {α : Type} {xs : List α} {i : Nat} {x : α} (hi : xs[i]? = some x) : xs.take (i + 1) = xs.take i ++ [x] := by rw [List.take_succ, hi] <;> rfl
end

/-! ### defs of the module, as callers see them -/
section
variable {P : Program} {w : World} {K : PySem.W.Frag} {mg : Str → Option Value} {base : Heap}
structure DefIn (K : PySem.W.Frag) (mg : Str → Option Value) (x : Str) (st : Stmt) (ps : List Str) : Prop where
  ex : ∃ (f : Addr) (fd : FuncData), Fun K x x st f fd ∧ mg x = some (.ref f) ∧ Binds K fd ps []
structure Cal (P : Program) (w : World) (K : PySem.W.Frag) (mg : Str → Option Value) (base : Heap) (k : Nat) (x : Str) (sp : Sp) : Prop where
  ex : ∃ (f : Addr) (fd : FuncData) (ps : List Str), FnOk P w K mg base CX0 k f fd ps sp ∧ mg x = some (.ref f) ∧ PySem.W.keepIn K (.ref f) = true ∧ Binds K fd ps []
theorem DefIn.ok {x : Str} {st : Stmt} {N ps : List Str} {k : Nat} {sp : Sp} (D : DefIn K mg x st ps) (S : FnScope N ps (defScope st)) (len : ∀ vs H Q E, sp vs H Q E → vs.length = ps.length)
    (hbody : ∀ (f : Addr) (cdv : Value) (A : Around) (outer : List Env) (s : Shared) (H : Hp) (vs : List V) (Q : VK) (E : XK), Room k (A.deeper (envOfC x (defScope st) s.heap.objs.size f cdv)) → sp vs H Q E →
      ∃ t, PSs (cxOf CX0 P w K mg base N x (defScope st) f cdv A outer s H E).nox (defBody st) t ∧ t { nx := fun _ H' => Q .non H', rt := Q } (start N vs) H) : Cal P w K mg base (k + 1) x sp := by
  obtain ⟨f, fd, F, hm, b⟩ := D.ex
  exact ⟨f, fd, ps, F.ok S len (fun cdv A outer s H vs Q E hr h => hbody f cdv A outer s H vs Q E hr h), hm, F.kp, b⟩
end
section
variable {X : Cx} {k j : Nat} {x : Str} {sp : Sp} {p pos : Pos} {e : Expr} {es : List Expr} {t : TA}
theorem vx_call (c : Cal X.prog X.w X.K X.mg X.base k x sp) (hr : Room j X.A) (hk : k ≤ j) (hg : Gl X x) (ha : PA X (e :: es) t)
    (hdb : (x == ("__debug__" : Str)) = false := by decide) (he : starEach (e :: es) X.env = (false, eval e X.env) :: starEach es X.env := by rfl) (hpl : (backTo pos (starEach es X.env)).any (·.1) = false := by rfl) :
    PE X (.Call (.Name x p) (e :: es) [] pos) (tCall sp [] E0 t) := by
  obtain ⟨f, fd, ps, F, hm, kp, b⟩ := c.ex
  exact pe_call F (hr.mono hk) hg hm kp b .nil pass0 ha hdb he hpl
end
end Vx

namespace Vx
open PySem PySem.Spec PyProof.Rows L2
section
variable {σ : L2.St} {H : Hp} {ta tb : TE} {x y z : V} {t : TT}
theorem vv_and {a b : Bool} (h1 : Val ta σ H (.bl a)) (h2 : Val tb σ H (.bl b)) : Val (tAndV ta tb) σ H (.bl (a && b)) := fun Q q => h1 _ ⟨a, rfl, by
  cases a with
  | true => exact iteT (h2 Q q)
  | false => exact iteF q⟩
theorem vv_or {a b : Bool} (h1 : Val ta σ H (.bl a)) (h2 : Val tb σ H (.bl b)) : Val (tOrV ta tb) σ H (.bl (a || b)) := fun Q q => h1 _ ⟨a, rfl, by
  cases a with
  | true => exact iteT q
  | false => exact iteF (h2 Q q)⟩
theorem vv_not {a : Bool} (h1 : Val ta σ H (.bl a)) : Val (tNotV ta) σ H (.bl (!a)) := fun Q q => h1 _ ⟨a, rfl, q⟩
theorem vv_un {r : V → Hp → VK → Prop} (ha : Val ta σ H x) (hr : ∀ Q : VK, Q z H → r x H Q) : Val (tUn r ta) σ H z := fun Q q => ha _ (hr Q q)
theorem vv_cmp {p : Int → Int → Bool} (ha : Val ta σ H x) (hb : Val tb σ H y) (hr : ∀ Q : VK, Q z H → ∃ i j, x = .int i ∧ y = .int j ∧ Q (.bl (p i j)) H) : Val (tCmp p ta tb) σ H z := fun Q q => ha _ (hb _ (hr Q q))
theorem vv_call1 {r : List V → Hp → VK → Prop} (ha : Val ta σ H x) (hr : ∀ Q : VK, Q z H → r [x] H Q) : Val (tCB r (tCons ta tNil)) σ H z := fun Q q => ha _ (hr Q q)
theorem vt_cmp {b : Bool} (h : Val ta σ H (.bl b)) : Ans (tB ta) σ H b := fun Q q => h _ ⟨b, rfl, q⟩
theorem vt_val {b : Bool} (h : Val ta σ H (.bl b)) : Ans (tB ta) σ H b := fun Q q => h _ ⟨b, rfl, q⟩
theorem vt_int {i : Int} {K : PySem.W.Frag} (h : Val ta σ H (.int i)) : Ans (fun σ H Q => ta σ H fun x H' => ∃ k, TruV K x H' k ∧ Q k H') σ H (i != 0) := fun Q q => h _ ⟨_, rfl, q⟩
theorem vv_if {p : Prop} [Decidable p] {a b : Int} (ht : Ans t σ H (decide p)) (hx : Val ta σ H (.int a)) (hy : Val tb σ H (.int b)) : Val (tIf t ta tb) σ H (.int (if p then a else b)) := fun Q q => ht _ (by
  by_cases h : p
  · rw [if_pos h] at q; exact iteDT h (hx Q q)
  · rw [if_neg h] at q; exact iteDF h (hy Q q))
theorem vv_ifb {c : Bool} {a b : Int} (ht : Ans t σ H c) (hx : Val ta σ H (.int a)) (hy : Val tb σ H (.int b)) : Val (tIf t ta tb) σ H (.int (if c = true then a else b)) := fun Q q => ht _ (by
  cases c with
  | true => exact iteT (hx Q q)
  | false => exact iteF (hy Q q))
end
end Vx

namespace Vx
open PySem PySem.Spec PyProof.Rows L2
def rLenLi (K : PySem.W.Frag) : List V → Hp → VK → Prop := fun xs H Q => ∃ (p : Addr) (ns : List Int), xs = [.ref p] ∧ SqL K H p (ns.map V.int) ∧ Q (.int (ns.length : Int)) H
theorem call_lenLi {X : Cx} : CallR X (.builtin "len") (rLenLi X.K) := by
  intro pins s σ H xs us Q I r h
  obtain ⟨p, ns, rfl, hs, q⟩ := h
  exact call_len_seq pins s σ H _ us Q I r ⟨p, _, rfl, Or.inl hs, by rw [List.length_map]; exact q⟩
end Vx

namespace Vx
open PySem PySem.Spec PyProof.Rows L2
section
variable {X : Cx} {K : PySem.W.Frag}
theorem ix_listK (hK : X.K = K := by rfl) : IxR X (rIxL K) := hK ▸ ix_list
theorem sl_listK (hK : X.K = K := by rfl) : SlR X (rSlL K) := hK ▸ sl_list
theorem call_lenLiK (hK : X.K = K := by rfl) : CallR X (.builtin "len") (rLenLi K) := hK ▸ call_lenLi
theorem op_eqLiK (hu : X.A.units + 64 < cLine) (hK : X.K = K := by rfl) : OpR X (compareOp .Eq) (rEqLi K) := hK ▸ op_eqLi hu
theorem op_neLiK (hu : X.A.units + 64 < cLine) (hK : X.K = K := by rfl) : OpR X (compareOp .NotEq) (rNeLi K) := hK ▸ op_neLi hu
theorem pi_listK {tg l : Expr} {tl : TE} (hl : PE X l tl) (hK : X.K = K := by rfl) : PI X tg l (iList K tl) := hK ▸ pi_list hl
theorem cr_sumK (hc : X.calm = true) (hK : X.K = K := by rfl) : CallR X (.builtin "sum") (rSum K) := hK ▸ cr_sum hc
theorem cr_maxK (hc : X.calm = true) (hK : X.K = K := by rfl) : CallR X (.builtin "max") (rMax K) := hK ▸ cr_max hc
theorem cr_minK (hc : X.calm = true) (hK : X.K = K := by rfl) : CallR X (.builtin "min") (rMin K) := hK ▸ cr_min hc
end
end Vx

namespace Vx
open PySem PySem.Spec PyProof.Rows L2
theorem tyes_go {σ : L2.St} {H : Hp} {f g : Hp → Prop} (h : f H) : tYes σ H (fun b H3 => if b = true then f H3 else g H3) := by
  show if true = true then f H else g H
  exact iteT h
end Vx

/-! # second part: data of any depth, the stable heap G, the owned addresses O -/
namespace Vx
open PySem PySem.Spec PyProof.Rows L2
mutual
inductive Rp (H : Hp) : V → PyData → Prop
  | non : Rp H .non .none
  | bl (b : Bool) : Rp H (.bl b) (.bool b)
  | int (i : Int) : Rp H (.int i) (.int i)
  | str (x : Str) : Rp H (.str x) (.str x)
  | lst {a : Addr} {xs : List V} {ds : List PyData} : H a = some (.lst xs) → RpAll H xs ds → Rp H (.ref a) (.list ds)
  | tup {a : Addr} {xs : List V} {ds : List PyData} : H a = some (.tup xs) → RpAll H xs ds → Rp H (.ref a) (.tuple ds)
inductive RpAll (H : Hp) : List V → List PyData → Prop
  | nil : RpAll H [] []
  | cons {v : V} {vs : List V} {d : PyData} {ds : List PyData} : Rp H v d → RpAll H vs ds → RpAll H (v :: vs) (d :: ds)
end
mutual
theorem Rp.mono {H H' : Hp} (e : Same H H') : ∀ {v : V} {d : PyData}, Rp H v d → Rp H' v d
  | _, _, .non => .non
  | _, _, .bl b => .bl b
  | _, _, .int i => .int i
  | _, _, .str x => .str x
  | _, _, .lst h r => .lst (e _ _ h) (RpAll.mono e r)
  | _, _, .tup h r => .tup (e _ _ h) (RpAll.mono e r)
theorem RpAll.mono {H H' : Hp} (e : Same H H') : ∀ {vs : List V} {ds : List PyData}, RpAll H vs ds → RpAll H' vs ds
  | _, _, .nil => .nil
  | _, _, .cons a b => .cons (Rp.mono e a) (RpAll.mono e b)
end
mutual
theorem Rp.dp {K : PySem.W.Frag} {H : Hp} : ∀ {v : V} {d : PyData}, Rp H v d → Dp K H v d
  | _, _, .non => .non
  | _, _, .bl b => .bl b
  | _, _, .int i => .int i
  | _, _, .str x => .str x
  | _, _, .lst h r => .lst (SqL.of h) (RpAll.dp r)
  | _, _, .tup h r => .tup (SqT.of h) (RpAll.dp r)
theorem RpAll.dp {K : PySem.W.Frag} {H : Hp} : ∀ {vs : List V} {ds : List PyData}, RpAll H vs ds → DpAll K H vs ds
  | _, _, .nil => .nil
  | _, _, .cons a b => .cons (Rp.dp a) (RpAll.dp b)
end
theorem RpAll.append {H : Hp} : ∀ {xs ys : List V} {ds es : List PyData}, RpAll H xs ds → RpAll H ys es → RpAll H (xs ++ ys) (ds ++ es)
  | _, _, _, _, .nil, s => s
  | _, _, _, _, .cons r t, s => .cons r (RpAll.append t s)
theorem RpAll.ints {H : Hp} : ∀ xs : List Int, RpAll H (xs.map V.int) (xs.map PyData.int)
  | [] => .nil
  | x :: xs => .cons (.int x) (RpAll.ints xs)
theorem RpAll.bls {H : Hp} : ∀ xs : List Bool, RpAll H (xs.map V.bl) (xs.map PyData.bool)
  | [] => .nil
  | x :: xs => .cons (.bl x) (RpAll.bls xs)
theorem RpAll.one {H : Hp} {v : V} {d : PyData} (h : Rp H v d) : RpAll H [v] [d] := .cons h .nil
theorem RpAll.len {H : Hp} : ∀ {vs : List V} {ds : List PyData}, RpAll H vs ds → vs.length = ds.length
  | _, _, .nil => rfl
  | _, _, .cons _ t => by rw [List.length_cons, List.length_cons, RpAll.len t]
theorem RpAll.at {H : Hp} : ∀ {vs : List V} {ds : List PyData} {i : Nat} {v : V}, RpAll H vs ds → vs[i]? = some v → ∃ d, ds[i]? = some d ∧ Rp H v d
  | _, _, _, _, .nil, h => by simp at h
  | _, _, 0, _, .cons r _, h => by
    simp at h
    subst h
    exact ⟨_, rfl, r⟩
  | _, _, i + 1, _, .cons _ t, h => by
    obtain ⟨d, h1, h2⟩ := RpAll.at (i := i) t (by simpa using h)
    exact ⟨d, by simpa using h1, h2⟩
theorem RpAll.at' {H : Hp} : ∀ {vs : List V} {ds : List PyData} {i : Nat} {d : PyData}, RpAll H vs ds → ds[i]? = some d → ∃ v, vs[i]? = some v ∧ Rp H v d
  | _, _, _, _, .nil, h => by simp at h
  | _, _, 0, _, .cons r _, h => by
    simp at h
    subst h
    exact ⟨_, rfl, r⟩
  | _, _, i + 1, _, .cons _ t, h => by
    obtain ⟨v, h1, h2⟩ := RpAll.at' (i := i) t (by simpa using h)
    exact ⟨v, by simpa using h1, h2⟩
theorem RpAll.take {H : Hp} : ∀ (n : Nat) {vs : List V} {ds : List PyData}, RpAll H vs ds → RpAll H (vs.take n) (ds.take n)
  | 0, _, _, _ => by simpa using RpAll.nil
  | n + 1, _, _, .nil => by simpa using RpAll.nil
  | n + 1, _, _, .cons r t => .cons r (RpAll.take n t)
theorem RpAll.drop {H : Hp} : ∀ (n : Nat) {vs : List V} {ds : List PyData}, RpAll H vs ds → RpAll H (vs.drop n) (ds.drop n)
  | 0, _, _, r => r
  | n + 1, _, _, .nil => by simpa using RpAll.nil
  | n + 1, _, _, .cons r t => RpAll.drop n t
theorem RpAll.set {H : Hp} {v : V} {d : PyData} (h : Rp H v d) : ∀ (n : Nat) {vs : List V} {ds : List PyData}, RpAll H vs ds → RpAll H (vs.set n v) (ds.set n d)
  | _, _, _, .nil => .nil
  | 0, _, _, .cons _ t => .cons h t
  | n + 1, _, _, .cons r t => .cons r (RpAll.set h n t)
theorem RpAll.rep {H : Hp} {vs : List V} {ds : List PyData} (h : RpAll H vs ds) : ∀ n : Nat, RpAll H (List.replicate n vs).flatten (List.replicate n ds).flatten
  | 0 => by simpa using RpAll.nil
  | n + 1 => by
    rw [List.replicate_succ, List.flatten_cons, List.replicate_succ, List.flatten_cons]
    exact RpAll.append h (RpAll.rep h n)
theorem RpAll.get {α : Type} {f : α → PyData} {H : Hp} {vs : List V} {xs : List α} {i : Nat} {v : V} (r : RpAll H vs (xs.map f)) (h : vs[i]? = some v) : ∃ x, xs[i]? = some x ∧ Rp H v (f x) := by
  obtain ⟨d, h1, h2⟩ := RpAll.at r h
  rw [List.getElem?_map] at h1
  cases e : xs[i]? with
  | none => rw [e] at h1; cases h1
  | some x =>
    rw [e] at h1
    have : f x = d := Option.some.inj h1
    exact ⟨x, rfl, this ▸ h2⟩
/-- the item at an index, data -/
theorem RpAll.ix {α : Type} {f : α → PyData} {H : Hp} {vs : List V} {xs : List α} {k : Int} (r : RpAll H vs (xs.map f)) (h : -(xs.length : Int) ≤ k ∧ k < xs.length) : ∃ v x, atI vs k = some v ∧ atI xs k = some x ∧ Rp H v (f x) := by
  have hl : vs.length = xs.length := by rw [r.len, List.length_map]
  have hk : ∃ j, ixN xs.length k = some j ∧ j < xs.length := by
    unfold ixN
    by_cases h0 : 0 ≤ k
    · refine ⟨k.toNat, ?_, by omega⟩
      rw [if_pos h0, if_pos h.2]
    · refine ⟨(k + xs.length).toNat, ?_, by omega⟩
      rw [if_neg h0, if_pos h.1]
  obtain ⟨j, e, hj⟩ := hk
  have hx := List.getElem?_eq_getElem hj
  obtain ⟨v, h1, h2⟩ := RpAll.at' (i := j) (d := f xs[j]) r (by rw [List.getElem?_map, hx] <;> rfl)
  refine ⟨v, xs[j], ?_, ?_, h2⟩
  · unfold atI
    rw [hl, e]
    exact h1
  · unfold atI
    rw [e]
    exact hx

/-! ### types -/
def encL {α : Type} (f : α → PyData) (xs : List α) : PyData := .list (xs.map f)
def encT2 {α β : Type} (f : α → PyData) (g : β → PyData) (p : α × β) : PyData := .tuple [f p.1, g p.2]
def encT3 {α β γ : Type} (f : α → PyData) (g : β → PyData) (h : γ → PyData) (p : α × β × γ) : PyData := .tuple [f p.1, g p.2.1, h p.2.2]
def encT4 {α β γ δ : Type} (f : α → PyData) (g : β → PyData) (h : γ → PyData) (i : δ → PyData) (p : α × β × γ × δ) : PyData := .tuple [f p.1, g p.2.1, h p.2.2.1, i p.2.2.2]
structure EncOk {α : Type} [DecidableEq α] (n : Nat) (f : α → PyData) : Prop where
  lay : ∀ x, PyData.canLay0 (f x) = true
  dep : ∀ x, PyData.depth (f x) ≤ n
  eqv : ∀ x y, PyData.eqv (f x) (f y) = decide (x = y)
theorem encOk_int : EncOk 0 PyData.int := ⟨fun _ => by simp [PyData.canLay0], fun _ => by simp [PyData.depth], fun x y => by simp [PyData.eqv]; by_cases h : x = y <;> simp [h]⟩
theorem encOk_bool : EncOk 0 PyData.bool := ⟨fun _ => by simp [PyData.canLay0], fun _ => by simp [PyData.depth], fun x y => by cases x <;> cases y <;> simp [PyData.eqv]⟩
section
variable {α β γ δ : Type} [DecidableEq α] [DecidableEq β] [DecidableEq γ] [DecidableEq δ] {n m l o : Nat} {f : α → PyData} {g : β → PyData} {h : γ → PyData} {i : δ → PyData}
theorem lay_map (ok : EncOk n f) : ∀ xs : List α, PyData.canLayAll0 (xs.map f) = true
  | [] => by simp [PyData.canLayAll0]
  | x :: xs => by simp [PyData.canLayAll0, ok.lay x, lay_map ok xs]
theorem dep_map (ok : EncOk n f) : ∀ xs : List α, PyData.depthAll (xs.map f) ≤ n
  | [] => by simp [PyData.depthAll]
  | x :: xs => by
    have h1 := ok.dep x
    have h2 := dep_map ok xs
    simp only [List.map_cons, PyData.depthAll]
    omega
theorem eqv_map (ok : EncOk n f) : ∀ xs ys : List α, PyData.eqvAll (xs.map f) (ys.map f) = decide (xs = ys)
  | [], [] => by simp [PyData.eqvAll]
  | [], y :: ys => by simp [PyData.eqvAll]
  | x :: xs, [] => by simp [PyData.eqvAll]
  | x :: xs, y :: ys => by
    have ih := eqv_map ok xs ys
    simp only [List.map_cons, PyData.eqvAll, ok.eqv, ih]
    by_cases h : x = y <;> by_cases h2 : xs = ys <;> simp [h, h2]
theorem encOk_L (ok : EncOk n f) : EncOk (n + 1) (encL f) := ⟨fun xs => by simp [encL, PyData.canLay0, lay_map ok], fun xs => by
  have := dep_map ok xs
  simp only [encL, PyData.depth]
  omega, fun xs ys => by simp only [encL, PyData.eqv]; exact eqv_map ok xs ys⟩
theorem encOk_T2 (ok : EncOk n f) (ok2 : EncOk m g) : EncOk (max n m + 1) (encT2 f g) := ⟨fun x => by simp [encT2, PyData.canLay0, PyData.canLayAll0, ok.lay, ok2.lay], fun x => by
  have h1 := ok.dep x.1
  have h2 := ok2.dep x.2
  simp only [encT2, PyData.depth, PyData.depthAll]
  omega, fun x y => by
  obtain ⟨a, b⟩ := x
  obtain ⟨c, d⟩ := y
  simp only [encT2, PyData.eqv, PyData.eqvAll, ok.eqv, ok2.eqv, Prod.mk.injEq]
  by_cases h1 : a = c <;> by_cases h2 : b = d <;> simp [h1, h2]⟩
theorem encOk_T3 (ok : EncOk n f) (ok2 : EncOk m g) (ok3 : EncOk l h) : EncOk (max n (max m l) + 1) (encT3 f g h) := ⟨fun x => by simp [encT3, PyData.canLay0, PyData.canLayAll0, ok.lay, ok2.lay, ok3.lay], fun x => by
  have h1 := ok.dep x.1
  have h2 := ok2.dep x.2.1
  have h3 := ok3.dep x.2.2
  simp only [encT3, PyData.depth, PyData.depthAll]
  omega, fun x y => by
  obtain ⟨a, b, e⟩ := x
  obtain ⟨c, d, e'⟩ := y
  simp only [encT3, PyData.eqv, PyData.eqvAll, ok.eqv, ok2.eqv, ok3.eqv, Prod.mk.injEq]
  by_cases h1 : a = c <;> by_cases h2 : b = d <;> by_cases h3 : e = e' <;> simp [h1, h2, h3]⟩
theorem encOk_T4 (ok : EncOk n f) (ok2 : EncOk m g) (ok3 : EncOk l h) (ok4 : EncOk o i) : EncOk (max n (max m (max l o)) + 1) (encT4 f g h i) := ⟨fun x => by simp [encT4, PyData.canLay0, PyData.canLayAll0, ok.lay, ok2.lay, ok3.lay, ok4.lay], fun x => by
  have h1 := ok.dep x.1
  have h2 := ok2.dep x.2.1
  have h3 := ok3.dep x.2.2.1
  have h4 := ok4.dep x.2.2.2
  simp only [encT4, PyData.depth, PyData.depthAll]
  omega, fun x y => by
  obtain ⟨a, b, e, u⟩ := x
  obtain ⟨c, d, e', u'⟩ := y
  simp only [encT4, PyData.eqv, PyData.eqvAll, ok.eqv, ok2.eqv, ok3.eqv, ok4.eqv, Prod.mk.injEq]
  by_cases h1 : a = c <;> by_cases h2 : b = d <;> by_cases h3 : e = e' <;> by_cases h4 : u = u' <;> simp [h1, h2, h3, h4]⟩
end
section
variable {X : Cx} {α : Type} [DecidableEq α] {n : Nat} {f : α → PyData}
def rEqT (f : α → PyData) : R2 := fun x y H Q => ∃ (a b : α), Rp H x (f a) ∧ Rp H y (f b) ∧ Q (.bl (decide (a = b))) H
def rNeT (f : α → PyData) : R2 := fun x y H Q => ∃ (a b : α), Rp H x (f a) ∧ Rp H y (f b) ∧ Q (.bl (!decide (a = b))) H
theorem shaped_of (ok : EncOk n f) (hn : n ≤ 64) (a : α) : SeqAt.shaped (f a) = true := by
  unfold SeqAt.shaped
  have h := ok.dep a
  rw [ok.lay]
  simp
  omega
theorem op_eqT (ok : EncOk n f) (hu : X.A.units + 64 < cLine) (hn : n ≤ 64 := by decide) : OpR X (compareOp .Eq) (rEqT f) := by
  intro pins s σ H x y v u Q I rx ry h
  obtain ⟨a, b, h1, h2, q⟩ := h
  exact op_eqD hu pins s σ H _ _ v u Q I rx ry ⟨_, _, h1.dp, h2.dp, shaped_of ok hn a, shaped_of ok hn b, by rw [ok.eqv]; exact q⟩
theorem op_neT (ok : EncOk n f) (hu : X.A.units + 64 < cLine) (hn : n ≤ 64 := by decide) : OpR X (compareOp .NotEq) (rNeT f) := by
  intro pins s σ H x y v u Q I rx ry h
  obtain ⟨a, b, h1, h2, q⟩ := h
  exact op_neD hu pins s σ H _ _ v u Q I rx ry ⟨_, _, h1.dp, h2.dp, shaped_of ok hn a, shaped_of ok hn b, by rw [ok.eqv]; exact q⟩
end
section
variable {H : Hp} {v : V} {α β γ δ : Type} {f : α → PyData} {g : β → PyData} {h : γ → PyData} {i : δ → PyData}
theorem rp_int {x : Int} (r : Rp H v (.int x)) : v = .int x := by cases r; rfl
theorem rp_bool {x : Bool} (r : Rp H v (.bool x)) : v = .bl x := by cases r; rfl
theorem rp_str {x : Str} (r : Rp H v (.str x)) : v = .str x := by cases r; rfl
theorem rp_list {xs : List α} (r : Rp H v (encL f xs)) : ∃ a vs, v = .ref a ∧ H a = some (.lst vs) ∧ RpAll H vs (xs.map f) := by
  unfold encL at r
  cases r with
  | lst h1 h2 => exact ⟨_, _, rfl, h1, h2⟩
theorem rpAll_ints : ∀ {vs : List V} {xs : List Int}, RpAll H vs (xs.map PyData.int) → vs = xs.map V.int
  | _, [], .nil => rfl
  | _, x :: xs, .cons r t => by rw [rp_int r, rpAll_ints t] <;> rfl
theorem rp_ints {xs : List Int} (r : Rp H v (encL PyData.int xs)) : ∃ a, v = .ref a ∧ H a = some (.lst (xs.map V.int)) := by
  obtain ⟨a, vs, e, h1, h2⟩ := rp_list r
  rw [rpAll_ints h2] at h1
  exact ⟨a, e, h1⟩
theorem rp_tup2 {x : α × β} (r : Rp H v (encT2 f g x)) : ∃ a v1 v2, v = .ref a ∧ H a = some (.tup [v1, v2]) ∧ Rp H v1 (f x.1) ∧ Rp H v2 (g x.2) := by
  unfold encT2 at r
  cases r with
  | tup h1 h2 =>
    cases h2 with
    | cons a b =>
      cases b with
      | cons b c =>
        cases c
        exact ⟨_, _, _, rfl, h1, a, b⟩
theorem rp_tup3 {x : α × β × γ} (r : Rp H v (encT3 f g h x)) : ∃ a v1 v2 v3, v = .ref a ∧ H a = some (.tup [v1, v2, v3]) ∧ Rp H v1 (f x.1) ∧ Rp H v2 (g x.2.1) ∧ Rp H v3 (h x.2.2) := by
  unfold encT3 at r
  cases r with
  | tup h1 h2 =>
    cases h2 with
    | cons a b =>
      cases b with
      | cons b c =>
        cases c with
        | cons c d =>
          cases d
          exact ⟨_, _, _, _, rfl, h1, a, b, c⟩
theorem rp_mk_list {a : Addr} {vs : List V} {xs : List α} (h1 : H a = some (.lst vs)) (h2 : RpAll H vs (xs.map f)) : Rp H (.ref a) (encL f xs) := .lst h1 h2
theorem rp_mk_ints {a : Addr} {xs : List Int} (h1 : H a = some (.lst (xs.map V.int))) : Rp H (.ref a) (encL PyData.int xs) := .lst h1 (RpAll.ints xs)
theorem rp_mk2 {a : Addr} {v1 v2 : V} {x : α} {y : β} (h1 : H a = some (.tup [v1, v2])) (r1 : Rp H v1 (f x)) (r2 : Rp H v2 (g y)) : Rp H (.ref a) (encT2 f g (x, y)) := .tup h1 (.cons r1 (.cons r2 .nil))
theorem rp_mk3 {a : Addr} {v1 v2 v3 : V} {x : α} {y : β} {z : γ} (h1 : H a = some (.tup [v1, v2, v3])) (r1 : Rp H v1 (f x)) (r2 : Rp H v2 (g y)) (r3 : Rp H v3 (h z)) : Rp H (.ref a) (encT3 f g h (x, y, z)) := .tup h1 (.cons r1 (.cons r2 (.cons r3 .nil)))
end

/-! ### the two heaps -/
def SameXs (L : List Addr) (H H' : Hp) : Prop := ∀ b o, H b = some o → b ∉ L → H' b = some o
theorem SameXs.of {H H' : Hp} {m : Addr} (x : SameX m H H') : SameXs [m] H H' := fun b o e n => x b o e (fun z => n (by rw [z]; exact List.mem_cons_self))
theorem ni1 {b m : Addr} (h : b ≠ m) : b ∉ [m] := by simpa using h
theorem ni2 {b m n : Addr} (h : b ≠ m) (h2 : b ≠ n) : b ∉ [m, n] := by simp [h, h2]
theorem ni3 {b m n o : Addr} (h : b ≠ m) (h2 : b ≠ n) (h3 : b ≠ o) : b ∉ [m, n, o] := by simp [h, h2, h3]
theorem ni4 {b m n o p : Addr} (h : b ≠ m) (h2 : b ≠ n) (h3 : b ≠ o) (h4 : b ≠ p) : b ∉ [m, n, o, p] := by simp [h, h2, h3, h4]
def hideL (L : List Addr) (H : Hp) : Hp := fun b => if b ∈ L then none else H b
theorem hideL_same (L : List Addr) (H : Hp) : Same (hideL L H) H := fun b o e => by
  unfold hideL at e
  split at e
  · cases e
  · exact e
theorem hideL_in {L : List Addr} {H : Hp} {b : Addr} (h : b ∈ L) : hideL L H b = none := if_pos h
theorem hideL_out {L : List Addr} {H : Hp} {b : Addr} (h : b ∉ L) : hideL L H b = H b := if_neg h
/-- M: owned from outside; H0, G0: at the entry; G: what stays as it is; O: what may change -/
structure Sep (M : List Addr) (H0 G0 G H : Hp) (O : List Addr) : Prop where
  base : SameXs M H0 H
  pm : ∀ a ∈ M, H a ≠ none
  sG : Same G H
  g0 : Same G0 G
  gn : ∀ b, H0 b ≠ none → G0 b = none → G b = none
  ow : ∀ a ∈ O, G a = none ∧ H a ≠ none ∧ (a ∈ M ∨ H0 a = none)
theorem all_nil {P : Addr → Prop} : ∀ x ∈ ([] : List Addr), P x := fun x h => by cases h
theorem all_cons {P : Addr → Prop} {a : Addr} {l : List Addr} (h : P a) (t : ∀ x ∈ l, P x) : ∀ x ∈ a :: l, P x := fun x hx => by
  cases hx with
  | head => exact h
  | tail _ hx => exact t x hx
theorem some_ne {H : Hp} {a : Addr} {o : HO} (h : H a = some o) : H a ≠ none := by
  rw [h]
  exact fun z => nomatch z
theorem same_ne {H H' : Hp} {a : Addr} (e : Same H H') (h : H a ≠ none) : H' a ≠ none := by
  cases q : H a with
  | none => exact absurd q h
  | some o => exact some_ne (e a o q)
section
variable {M : List Addr} {H0 G0 G H H' : Hp} {O : List Addr} {p m : Addr} {o : HO}
theorem Sep.start (M : List Addr) (H : Hp) (hM : ∀ a ∈ M, H a ≠ none) : Sep M H (hideL M H) (hideL M H) H M :=
  ⟨fun _ _ e _ => e, hM, hideL_same M H, Same.refl _, fun _ _ e => e, fun a ha => ⟨hideL_in ha, hM a ha, .inl ha⟩⟩
theorem Sep.startG {G H : Hp} (e : Same G H) : Sep [] H G G H [] := ⟨fun _ _ e _ => e, all_nil, e, Same.refl _, fun _ _ e => e, fun a ha => by cases ha⟩
theorem Sep.start0 (H : Hp) : Sep [] H H H H [] := Sep.startG (Same.refl H)
theorem Sep.b0 (S : Sep [] H0 G0 G H O) : Same H0 H := fun b o e => S.base b o e List.not_mem_nil
theorem Sep.free (S : Sep M H0 G0 G H O) {q : Addr} (n : H q = none) : H0 q = none := by
  cases e : H0 q with
  | none => rfl
  | some o =>
    by_cases h : q ∈ M
    · exact absurd n (S.pm q h)
    · rw [S.base q o e h] at n
      cases n
theorem Sep.same (S : Sep M H0 G0 G H O) (e : Same H H') : Sep M H0 G0 G H' O :=
  ⟨fun b o h n => e b o (S.base b o h n), fun a ha => same_ne e (S.pm a ha), S.sG.trans e, S.g0, S.gn, fun a ha => ⟨(S.ow a ha).1, same_ne e (S.ow a ha).2.1, (S.ow a ha).2.2⟩⟩
theorem Sep.gfree (S : Sep M H0 G0 G H O) {q : Addr} (n : H q = none) : G q = none := by
  cases e : G q with
  | none => rfl
  | some o => rw [S.sG q o e] at n; cases n
theorem Sep.new (S : Sep M H0 G0 G H O) (n : H p = none) (e : Same H H') (h : H' p = some o) (hm : H0 p = none) : Sep M H0 G0 G H' (p :: O) := by
  have S1 := S.same e
  refine ⟨S1.base, S1.pm, S1.sG, S1.g0, S1.gn, fun a ha => ?_⟩
  cases ha with
  | head => exact ⟨S.gfree n, some_ne h, .inr hm⟩
  | tail _ ha => exact S1.ow a ha
theorem Sep.grow (S : Sep M H0 G0 G H O) (n : H p = none) (e : Same H H') (h : H' p = some o) (hm : H0 p = none) : ∃ G', Same G G' ∧ G' p = some o ∧ Sep M H0 G0 G' H' O := by
  have S1 := S.same e
  have ng := S.gfree n
  refine ⟨upd G p o, fun b u q => by rw [upd_ne (ne_of_none q ng)]; exact q, upd_same, S1.base, S1.pm, fun b u q => ?_, fun b u q => ?_, fun b hb gb => ?_, fun a ha => ?_⟩
  · by_cases z : b = p
    · subst z
      rw [upd_same] at q
      exact q ▸ h
    · rw [upd_ne z] at q
      exact S1.sG b u q
  · have := S.g0 b u q
    rw [upd_ne (ne_of_none this ng)]
    exact this
  · by_cases z : b = p
    · subst z
      exact absurd hm hb
    · rw [upd_ne z]
      exact S.gn b hb gb
  · have hne : a ≠ p := fun z => (S.ow a ha).2.1 (by rw [z]; exact n)
    rw [upd_ne hne]
    exact S1.ow a ha
theorem Sep.mut (S : Sep M H0 G0 G H O) {L : List Addr} (x : SameXs L H H') (hL : ∀ a ∈ L, a ∈ O) (hs : ∀ a ∈ L, H' a ≠ none) : Sep M H0 G0 G H' O := by
  have keep : ∀ a, H a ≠ none → H' a ≠ none := fun a h => by
    by_cases hb : a ∈ L
    · exact hs a hb
    · cases q : H a with
      | none => exact absurd q h
      | some o => exact some_ne (x a o q hb)
  refine ⟨fun b o e n => ?_, fun a ha => keep a (S.pm a ha), fun b o e => ?_, S.g0, S.gn, fun a ha => ⟨(S.ow a ha).1, keep a (S.ow a ha).2.1, (S.ow a ha).2.2⟩⟩
  · refine x b o (S.base b o e n) fun hb => ?_
    rcases (S.ow b (hL b hb)).2.2 with z | z
    · exact n z
    · rw [e] at z; cases z
  · refine x b o (S.sG b o e) fun hb => ?_
    have := (S.ow b (hL b hb)).1
    rw [e] at this
    cases this
theorem Sep.mut1 (S : Sep M H0 G0 G H O) (x : SameX m H H') (hm : m ∈ O) (h : H' m = some o) : Sep M H0 G0 G H' O :=
  S.mut (SameXs.of x) (all_cons hm all_nil) (all_cons (some_ne h) all_nil)
theorem Sep.sub (S : Sep M H0 G0 G H O) {O' : List Addr} (h : ∀ a ∈ O', a ∈ O) : Sep M H0 G0 G H O' := ⟨S.base, S.pm, S.sG, S.g0, S.gn, fun a ha => S.ow a (h a ha)⟩
/-- what was owned and is to stay as it is from now on -/
theorem Sep.freeze (S : Sep M H0 G0 G H O) {O' : List Addr} (hp : p ∈ O) (h : H p = some o) (hm : H0 p = none) (hO : ∀ a ∈ O', a ∈ O ∧ a ≠ p) : ∃ G', Same G G' ∧ G' p = some o ∧ Sep M H0 G0 G' H O' := by
  have ng := (S.ow p hp).1
  refine ⟨upd G p o, fun b u q => by rw [upd_ne (ne_of_none q ng)]; exact q, upd_same, S.base, S.pm, fun b u q => ?_, fun b u q => ?_, fun b hb gb => ?_, fun a ha => ?_⟩
  · by_cases z : b = p
    · subst z
      rw [upd_same] at q
      exact q ▸ h
    · rw [upd_ne z] at q
      exact S.sG b u q
  · have := S.g0 b u q
    rw [upd_ne (ne_of_none this ng)]
    exact this
  · by_cases z : b = p
    · subst z
      exact absurd hm hb
    · rw [upd_ne z]
      exact S.gn b hb gb
  · rw [upd_ne (hO a ha).2]
    exact S.ow a (hO a ha).1
/-- a callee that hands on data in a stable heap of its own -/
theorem Sep.step (S : Sep M H0 G0 G H O) {G' : Hp} (e : Same H H') (eG : Same G G') (sG : Same G' H') (hn : ∀ b, H b ≠ none → G b = none → G' b = none) : Sep M H0 G0 G' H' O := by
  have S1 := S.same e
  refine ⟨S1.base, S1.pm, sG, S.g0.trans eG, fun b hb gb => ?_, fun a ha => ⟨hn a (S.ow a ha).2.1 (S.ow a ha).1, (S1.ow a ha).2⟩⟩
  refine hn b (fun z => ?_) (S.gn b hb gb)
  exact hb (S.free z)
theorem Sep.hid (S : Sep M H0 G0 G H O) {L : List Addr} (h : ∀ a ∈ L, a ∈ O) : Same G (hideL L H) := fun b o e => by
  rw [hideL_out fun z => by
    have := (S.ow b (h b z)).1
    rw [e] at this
    cases this]
  exact S.sG b o e
end
end Vx

namespace Vx
open PySem PySem.Spec PyProof.Rows L2
/-! ### lists of plain things (f : V.int, V.bl, V.str) -/
section
variable {α : Type} {f : α → V} {H : Hp} {p : Addr}
theorem cat_map {xs ys : List α} (h : H p = some (.lst (xs.map f ++ ys.map f))) : H p = some (.lst ((xs ++ ys).map f)) := by
  rw [List.map_append]; exact h
theorem snoc_map {xs : List α} {y : α} (h : H p = some (.lst (xs.map f ++ [f y]))) : H p = some (.lst ((xs ++ [y]).map f)) := by
  rw [List.map_append]; exact h
def repL (xs : List α) (k : Int) : List α := (List.replicate k.toNat xs).flatten
theorem rep_map {xs : List α} {k : Int} (h : H p = some (.lst (List.replicate k.toNat (xs.map f)).flatten)) : H p = some (.lst ((repL xs k).map f)) := by
  rw [h]
  unfold repL
  rw [List.map_flatten, List.map_replicate]
def cutL (xs : List α) (lo hi : Option Int) : List α := (xs.drop (HT.sIx xs.length 0 lo)).take (HT.sIx xs.length xs.length hi - HT.sIx xs.length 0 lo)
theorem cut_map {xs : List α} {lo hi : Option Int} (h : H p = some (.lst (cutV (xs.map f) lo hi))) : H p = some (.lst ((cutL xs lo hi).map f)) := by
  rw [h]
  unfold cutV cutL
  rw [List.length_map, List.map_take, List.map_drop]
theorem cast_map {xs ys : List α} (h : H p = some (.lst (xs.map f))) (e : xs = ys) : H p = some (.lst (ys.map f)) := e ▸ h
theorem drop_map {xs : List α} (h : H p = some (.lst (xs.map f).dropLast)) : H p = some (.lst (xs.dropLast.map f)) := by
  rw [h, List.map_dropLast]
theorem ixN_some {n : Nat} {k : Int} (h : -(n : Int) ≤ k ∧ k < n) : ∃ j, ixN n k = some j ∧ j < n := by
  unfold ixN
  by_cases h0 : 0 ≤ k
  · exact ⟨k.toNat, by rw [if_pos h0, if_pos h.2], by omega⟩
  · exact ⟨(k + n).toNat, by rw [if_neg h0, if_pos h.1], by omega⟩
def itD [Inhabited α] (xs : List α) (k : Int) : α := (atI xs k).getD default
theorem atI_map [Inhabited α] {xs : List α} {k : Int} (h : -(xs.length : Int) ≤ k ∧ k < xs.length) : atI (xs.map f) k = some (f (itD xs k)) := by
  obtain ⟨j, e, hj⟩ := ixN_some h
  unfold itD atI
  rw [List.length_map, e]
  show (xs.map f)[j]? = some (f ((xs[j]?).getD default))
  rw [List.getElem?_map, List.getElem?_eq_getElem hj] <;> rfl
def setL (xs : List α) (k : Int) (y : α) : List α := xs.set ((ixN xs.length k).getD 0) y
theorem ixN_map {xs : List α} {k : Int} (h : -(xs.length : Int) ≤ k ∧ k < xs.length) : ixN (xs.map f).length k = some ((ixN xs.length k).getD 0) := by
  obtain ⟨j, e, hj⟩ := ixN_some h
  rw [List.length_map, e] <;> rfl
theorem set_map {xs : List α} {k : Int} {y : α} (h : H p = some (.lst ((xs.map f).set ((ixN xs.length k).getD 0) (f y)))) : H p = some (.lst ((setL xs k y).map f)) := by
  rw [h]
  unfold setL
  rw [List.map_set]
def lastD [Inhabited α] (xs : List α) : α := xs.getLastD default
theorem pop_map [Inhabited α] {xs : List α} (h : xs ≠ []) : (xs.map f)[(xs.map f).length - 1]? = some (f (lastD xs)) := by
  rw [← List.getLast?_eq_getElem?, List.getLast?_map]
  unfold lastD
  cases e : xs.getLast? with
  | none => exact absurd (List.getLast?_eq_none_iff.mp e) h
  | some y =>
    rw [List.getLastD_eq_getLast?, e] <;> rfl
end
/-! ### lists of data -/
section
variable {α β : Type} {f : α → PyData} {g : β → PyData} {G : Hp} {vs ws : List V} {xs ys : List α}
theorem app_map (a : RpAll G vs (xs.map f)) (b : RpAll G ws (ys.map f)) : RpAll G (vs ++ ws) ((xs ++ ys).map f) := by
  rw [List.map_append]; exact a.append b
theorem one_map {v : V} {y : α} (a : RpAll G vs (xs.map f)) (b : Rp G v (f y)) : RpAll G (vs ++ [v]) ((xs ++ [y]).map f) := by
  rw [List.map_append]; exact a.append (.one b)
theorem rep_all (k : Int) (a : RpAll G vs (xs.map f)) : RpAll G (List.replicate k.toNat vs).flatten ((repL xs k).map f) := by
  unfold repL
  rw [List.map_flatten, List.map_replicate]
  exact a.rep _
theorem cut_all (lo hi : Option Int) (a : RpAll G vs (xs.map f)) : RpAll G (cutV vs lo hi) ((cutL xs lo hi).map f) := by
  unfold cutV cutL
  rw [a.len, List.length_map, List.map_take, List.map_drop]
  exact (a.drop _).take _
theorem rp_cast {v : V} {d e : PyData} (r : Rp G v d) (h : d = e) : Rp G v e := h ▸ r
theorem comp_listD {i : Nat} {x : α} {y : β} {v : V} {h : α → β} (hi : xs[i]? = some x) (a : RpAll G vs (((xs.take i).map h).map g)) (r : Rp G v (g y)) (e : h x = y) : RpAll G (vs ++ [v]) (((xs.take (i + 1)).map h).map g) := by
  rw [take_succ_get hi, List.map_append, List.map_append]
  exact a.append (.one (e ▸ r))
theorem comp_rangeD {i : Nat} {y : β} {v : V} {h : Nat → β} (a : RpAll G vs (((List.range i).map h).map g)) (r : Rp G v (g y)) (e : h i = y) : RpAll G (vs ++ [v]) (((List.range (i + 1)).map h).map g) := by
  rw [List.range_succ, List.map_append, List.map_append]
  exact a.append (.one (e ▸ r))
theorem comp_doneD {n : Nat} {h : List α → List β} (hl : n = xs.length) (a : RpAll G vs ((h (xs.take n)).map g)) : RpAll G vs ((h xs).map g) := by
  rw [hl, List.take_length] at a
  exact a
theorem comp_listFD {i : Nat} {x : α} {y : β} {v : V} {h : α → β} {q : α → Bool} (hi : xs[i]? = some x) (hq : q x = true) (a : RpAll G vs ((((xs.take i).filter q).map h).map g)) (r : Rp G v (g y)) (e : h x = y) : RpAll G (vs ++ [v]) ((((xs.take (i + 1)).filter q).map h).map g) := by
  rw [take_succ_get hi, List.filter_append, List.filter_cons, if_pos hq, List.map_append, List.map_append]
  exact a.append (.one (e ▸ r))
theorem skip_listD {i : Nat} {x : α} {h : α → β} {q : α → Bool} (hi : xs[i]? = some x) (hq : q x = false) (a : RpAll G vs ((((xs.take i).filter q).map h).map g)) : RpAll G vs ((((xs.take (i + 1)).filter q).map h).map g) := by
  rw [take_succ_get hi, List.filter_append, List.filter_cons, if_neg (by rw [hq]; decide), List.filter_nil, List.append_nil]
  exact a
end
section
variable {α β : Type} {f : β → V} {H : Hp} {D : Addr} {xs : List α}
theorem compM_list {i : Nat} {x : α} {y : β} {h : α → β} (hi : xs[i]? = some x) (a : H D = some (.lst (((xs.take i).map h).map f ++ [f y]))) (e : h x = y) : H D = some (.lst (((xs.take (i + 1)).map h).map f)) := by
  rw [a, ← e, take_succ_get hi, List.map_append, List.map_append] <;> rfl
theorem compM_range {i : Nat} {y : β} {h : Nat → β} (a : H D = some (.lst (((List.range i).map h).map f ++ [f y]))) (e : h i = y) : H D = some (.lst (((List.range (i + 1)).map h).map f)) := by
  rw [a, ← e, List.range_succ, List.map_append, List.map_append] <;> rfl
theorem compM_done {n : Nat} {h : List α → List β} (hl : n = xs.length) (a : H D = some (.lst ((h (xs.take n)).map f))) : H D = some (.lst ((h xs).map f)) := by
  rw [hl, List.take_length] at a
  exact a
theorem compM_listF {i : Nat} {x : α} {y : β} {h : α → β} {q : α → Bool} (hi : xs[i]? = some x) (hq : q x = true) (a : H D = some (.lst ((((xs.take i).filter q).map h).map f ++ [f y]))) (e : h x = y) : H D = some (.lst ((((xs.take (i + 1)).filter q).map h).map f)) := by
  rw [a, ← e, take_succ_get hi, List.filter_append, List.filter_cons, if_pos hq, List.map_append, List.map_append] <;> rfl
theorem skipM_list {i : Nat} {x : α} {h : α → β} {q : α → Bool} (hi : xs[i]? = some x) (hq : q x = false) (a : H D = some (.lst ((((xs.take i).filter q).map h).map f))) : H D = some (.lst ((((xs.take (i + 1)).filter q).map h).map f)) := by
  rw [a, take_succ_get hi, List.filter_append, List.filter_cons, if_neg (by rw [hq]; decide), List.filter_nil, List.append_nil]
theorem compM_rangeF {i : Nat} {y : β} {h : Nat → β} {q : Nat → Bool} (hq : q i = true) (a : H D = some (.lst ((((List.range i).filter q).map h).map f ++ [f y]))) (e : h i = y) : H D = some (.lst ((((List.range (i + 1)).filter q).map h).map f)) := by
  rw [a, ← e, List.range_succ, List.filter_append, List.filter_cons, if_pos hq, List.map_append, List.map_append] <;> rfl
theorem skipM_range {i : Nat} {h : Nat → β} {q : Nat → Bool} (hq : q i = false) (a : H D = some (.lst ((((List.range i).filter q).map h).map f))) : H D = some (.lst ((((List.range (i + 1)).filter q).map h).map f)) := by
  rw [a, List.range_succ, List.filter_append, List.filter_cons, if_neg (by rw [hq]; decide), List.filter_nil, List.append_nil]
end
/-! ### more rules -/
section
variable {X : Cx} {K : PySem.W.Frag}
theorem ix_tupK (hK : X.K = K := by rfl) : IxR X (rIxT K) := hK ▸ ix_tup
def rLenLK (K : PySem.W.Frag) : List V → Hp → VK → Prop := fun xs H Q => ∃ (p : Addr) (vs : List V) (n : Nat), xs = [.ref p] ∧ SqL K H p vs ∧ vs.length = n ∧ Q (.int (n : Int)) H
theorem call_lenLK (hK : X.K = K := by rfl) : CallR X (.builtin "len") (rLenLK K) := by
  subst hK
  intro pins s σ H xs us Q I r h
  obtain ⟨p, vs, n, rfl, hs, hn, q⟩ := h
  exact call_len_seq pins s σ H _ us Q I r ⟨p, _, rfl, Or.inl hs, by rw [hn]; exact q⟩
def rListLK (K : PySem.W.Frag) : List V → Hp → VK → Prop := fun xs H Q => ∃ (p : Addr) (vs : List V), xs = [.ref p] ∧ SqL K H p vs ∧ ∀ l, H l = none → Q (.ref l) (upd H l (.lst vs))
theorem call_listLK (hK : X.K = K := by rfl) : CallR X (.type "list") (rListLK K) := by
  subst hK
  intro pins s σ H xs us Q I r h
  obtain ⟨p, vs, rfl, hs, q⟩ := h
  exact call_list_of pins s σ H _ us Q I r ⟨p, _, rfl, Or.inl hs, q⟩
theorem cr_anyK (hc : X.calm = true) (hK : X.K = K := by rfl) : CallR X (.builtin "any") (rAny K) := hK ▸ cr_any hc
theorem cr_allK (hc : X.calm = true) (hK : X.K = K := by rfl) : CallR X (.builtin "all") (rAll K) := hK ▸ cr_all hc
theorem pi_tupK {tg l : Expr} {tl : TE} (hl : PE X l tl) (hK : X.K = K := by rfl) : PI X tg l (iTup K tl) := hK ▸ pi_tup hl
theorem pip {op : Operator} {r : R2} (h : OpR X (inplaceOp op) r) : PIp X op r := fun pins s σ H x y v u Q I rx ry q => h pins s σ H x y v u Q I rx ry q
/-- an item at a place from 0 on, by itself (ahead of o[i] op= e) -/
def rIxP (K : PySem.W.Frag) : R2 := fun x y H Q => ∃ (p : Addr) (xs : List V) (k : Int) (v : V), x = .ref p ∧ y = .int k ∧ SqL K H p xs ∧ 0 ≤ k ∧ k < 2 ^ 62 ∧ atI xs k = some v ∧ Q v H
theorem pget_list (hK : X.K = K := by rfl) : PGet X (rIxP K) := by
  subst hK
  intro pins s σ H o i ov iv Q I ro ri h
  obtain ⟨p, xs, k, v, rfl, rfl, hq, h0, h62, ha, q⟩ := h
  cases ro
  obtain ⟨t, rfl⟩ := ri
  obtain ⟨its, r, pl, hz⟩ := I.list hq
  obtain ⟨j, h1, h2, h3, h4, h5⟩ := atI_get ha
  obtain ⟨w, ew, rw'⟩ := r.get h2
  have hj : k.toNat = j := by
    rw [seqIndex_of h0 h5] at h1
    exact Option.some.inj h1
  exact getItem_listL pl.isList h0 (by omega) (by rw [hj]; simpa using ew) ⟨v, H, I, rw', q⟩
theorem tru_map {α : Type} [DecidableEq α] {f : α → V} {xs : List α} : (!decide (xs = [])) = !(xs.map f).isEmpty := by
  cases xs <;> simp
end
end Vx

namespace Vx
open PySem PySem.Spec PyProof.Rows L2
/-! ### objects -/
section
variable {M : List Addr} {H0 G0 G H H' : Hp} {O : List Addr} {p m : Addr} {o : HO}
theorem gen_obj {x dx : Addr} {o1 o2 : HO} (nx : H x = none) (nd : H dx = none) (ne : dx ≠ x) (h : upd (upd H dx o1) x o2 = H') : Same H H' ∧ H' x = some o2 := by
  subst h
  exact ⟨fun b u e => by rw [upd_ne (ne_of_none e nx), upd_ne (ne_of_none e nd)]; exact e, upd_same⟩
theorem sameX_of {m : Addr} (x : SameXs [m] H H') : SameX m H H' := fun b o e n => x b o e (by simpa using n)
theorem g_ne {a b : Addr} (h : G a = some o) (S : Sep M H0 G0 G H O) (hb : b ∈ O) : a ≠ b := fun z => by
  have := (S.ow b hb).1
  rw [← z, h] at this
  cases this
/-- an object whose making has laid some lists -/
theorem Sep.mutnew (S : Sep M H0 G0 G H O) {L : List Addr} (x : SameXs L H H') (hL : ∀ a ∈ L, a ∈ O) (hs : ∀ a ∈ L, H' a ≠ none) (hn : H p = none) (hp : H' p ≠ none) (h0 : H0 p = none) : Sep M H0 G0 G H' (p :: O) := by
  have S1 := S.mut x hL hs
  refine ⟨S1.base, S1.pm, S1.sG, S1.g0, S1.gn, all_cons ⟨S.gfree hn, hp, .inr h0⟩ S1.ow⟩
theorem Sep.init (S : Sep M H0 G0 G H O) (x : SameX m H H') (hm : m ∈ O) (h : H' m = some o) (L : List Addr) (hL : ∀ a ∈ L, H a = none ∧ H' a ≠ none ∧ H0 a = none) : Sep M H0 G0 G H' (L ++ O) := by
  have S1 := S.mut1 x hm h
  refine ⟨S1.base, S1.pm, S1.sG, S1.g0, S1.gn, fun a ha => ?_⟩
  rcases List.mem_append.mp ha with z | z
  · obtain ⟨h1, h2, h3⟩ := hL a z
    exact ⟨S.gfree h1, h2, .inr h3⟩
  · exact S1.ow a z
end
section
variable {P : Program} {w : World} {K : PySem.W.Frag} {mg : Str → Option Value} {base : Heap}
structure MethIn (K : PySem.W.Frag) (C : Addr) (q m : Str) (st : Stmt) (ps : List Str) : Prop where
  ex : ∃ (f : Addr) (fd : FuncData), Fun K m q st f fd ∧ Meth K C m f ∧ Binds K fd ps []
structure PropIn (K : PySem.W.Frag) (C : Addr) (q m : Str) (st : Stmt) (ps : List Str) : Prop where
  ex : ∃ (r f : Addr) (fd : FuncData), Fun K m q st f fd ∧ PropOf K C m r f ∧ Binds K fd ps []
structure InitIn (K : PySem.W.Frag) (mg : Str → Option Value) (C : Addr) (cn q : Str) (st : Stmt) (ps : List Str) : Prop where
  ex : ∃ (f : Addr) (fd : FuncData), Fun K "__init__" q st f fd ∧ Mk K C f ∧ mg cn = some (.ref C) ∧ Binds K fd ps []
structure MetC (P : Program) (w : World) (K : PySem.W.Frag) (mg : Str → Option Value) (base : Heap) (k : Nat) (C : Addr) (m : Str) (sp : Sp) : Prop where
  ex : ∃ (f : Addr) (fd : FuncData) (ps : List Str), Cls K C ∧ Meth K C m f ∧ FnOk P w K mg base CX0 k f fd ps sp ∧ Binds K fd ps []
structure PropC (P : Program) (w : World) (K : PySem.W.Frag) (mg : Str → Option Value) (base : Heap) (k : Nat) (C : Addr) (m : Str) (sp : Sp) : Prop where
  ex : ∃ (q f : Addr) (fd : FuncData) (ps : List Str), Cls K C ∧ PropOf K C m q f ∧ FnOk P w K mg base CX0 k f fd ps sp ∧ Binds K fd ps []
structure MakC (P : Program) (w : World) (K : PySem.W.Frag) (mg : Str → Option Value) (base : Heap) (k : Nat) (cn : Str) (C : Addr) (sp : Sp) : Prop where
  ex : ∃ (f : Addr) (fd : FuncData) (ps : List Str), Mk K C f ∧ FnOk P w K mg base CX0 k f fd ps sp ∧ mg cn = some (.ref C) ∧ Binds K fd ps []
abbrev Body (P : Program) (w : World) (K : PySem.W.Frag) (mg : Str → Option Value) (base : Heap) (x : Str) (st : Stmt) (N : List Str) (k : Nat) (sp : Sp) : Prop :=
  ∀ (f : Addr) (cdv : Value) (A : Around) (outer : List Env) (s : Shared) (H : Hp) (vs : List V) (Q : VK) (E : XK), Room k (A.deeper (envOfC x (defScope st) s.heap.objs.size f cdv)) → sp vs H Q E →
    ∃ t, PSs (cxOf CX0 P w K mg base N x (defScope st) f cdv A outer s H E).nox (defBody st) t ∧ t { nx := fun _ H' => Q .non H', rt := Q } (start N vs) H
theorem MethIn.ok {C : Addr} {q m : Str} {st : Stmt} {N ps : List Str} {k : Nat} {sp : Sp} (D : MethIn K C q m st ps) (c : Cls K C) (S : FnScope N ps (defScope st)) (len : ∀ vs H Q E, sp vs H Q E → vs.length = ps.length)
    (hbody : Body P w K mg base q st N k sp) : MetC P w K mg base (k + 1) C m sp := by
  obtain ⟨f, fd, F, me, b⟩ := D.ex
  exact ⟨f, fd, ps, c, me, F.ok S len (fun cdv A outer s H vs Q E hr h => hbody f cdv A outer s H vs Q E hr h), b⟩
theorem PropIn.ok {C : Addr} {q m : Str} {st : Stmt} {N ps : List Str} {k : Nat} {sp : Sp} (D : PropIn K C q m st ps) (c : Cls K C) (S : FnScope N ps (defScope st)) (len : ∀ vs H Q E, sp vs H Q E → vs.length = ps.length)
    (hbody : Body P w K mg base q st N k sp) : PropC P w K mg base (k + 1) C m sp := by
  obtain ⟨r, f, fd, F, me, b⟩ := D.ex
  exact ⟨r, f, fd, ps, c, me, F.ok S len (fun cdv A outer s H vs Q E hr h => hbody f cdv A outer s H vs Q E hr h), b⟩
theorem InitIn.ok {C : Addr} {cn q : Str} {st : Stmt} {N ps : List Str} {k : Nat} {sp : Sp} (D : InitIn K mg C cn q st ps) (S : FnScope N ps (defScope st)) (len : ∀ vs H Q E, sp vs H Q E → vs.length = ps.length)
    (hbody : Body P w K mg base q st N k sp) : MakC P w K mg base (k + 1) cn C sp := by
  obtain ⟨f, fd, F, me, hm, b⟩ := D.ex
  exact ⟨f, fd, ps, me, F.ok S len (fun cdv A outer s H vs Q E hr h => hbody f cdv A outer s H vs Q E hr h), hm, b⟩
end
section
variable {X : Cx} {k j : Nat} {C : Addr} {x m : Str} {sp : Sp} {p pos apos : Pos} {e o : Expr} {es : List Expr} {ta : TE} {t : TA}
theorem vx_call0 (c : Cal X.prog X.w X.K X.mg X.base k x sp) (hr : Room j X.A) (hk : k ≤ j) (hg : Gl X x) (hdb : (x == ("__debug__" : Str)) = false := by decide) : PE X (.Call (.Name x p) [] [] pos) (tCall sp [] E0 tNil) := by
  obtain ⟨f, fd, ps, F, hm, kp, b⟩ := c.ex
  exact pe_call0 F (hr.mono hk) hg hm kp b .nil pass0 hdb
theorem vx_make (c : MakC X.prog X.w X.K X.mg X.base k x C sp) (hr : Room j X.A) (hk : k + 1 ≤ j) (hg : Gl X x) (ha : PA X (e :: es) t)
    (hdb : (x == ("__debug__" : Str)) = false := by decide) (he : starEach (e :: es) X.env = (false, eval e X.env) :: starEach es X.env := by rfl) (hpl : (backTo pos (starEach es X.env)).any (·.1) = false := by rfl) :
    PE X (.Call (.Name x p) (e :: es) [] pos) (tMake C sp [] E0 t) := by
  obtain ⟨f, fd, ps, M, F, hm, b⟩ := c.ex
  exact pe_make M F (hr.mono hk) hg hm b .nil pass0 ha hdb he hpl
theorem vx_make0 (c : MakC X.prog X.w X.K X.mg X.base k x C sp) (hr : Room j X.A) (hk : k + 1 ≤ j) (hg : Gl X x) (hdb : (x == ("__debug__" : Str)) = false := by decide) :
    PE X (.Call (.Name x p) [] [] pos) (tMake C sp [] E0 tNil) := by
  obtain ⟨f, fd, ps, M, F, hm, b⟩ := c.ex
  exact pe_make0 M F (hr.mono hk) hg hm b .nil pass0 hdb
theorem vx_meth {pl : Sem Bool} (c : MetC X.prog X.w X.K X.mg X.base k C m sp) (hr : Room j X.A) (hk : k ≤ j) (he : PE X o ta) (ha : PA X (e :: es) t)
    (hst : starEach (e :: es) X.env = (false, eval e X.env) :: starEach es X.env := by rfl) (hpl : (backTo pos (starEach es X.env)).any (·.1) = false := by rfl)
    (ht : eval (.Call (.Attribute o m apos) (e :: es) [] pos) X.env = (do
      let ov ← eval o X.env
      standAt apos.atName
      let (f, first) ← holding [ov] (getMethod ov m pl)
      callWith pos f first (backTo pos (starEach (e :: es) X.env)) (backToKw pos (keywordEach [] X.env))) := by rfl) :
    PE X (.Call (.Attribute o m apos) (e :: es) [] pos) (tMeth C m sp [] E0 ta t) := by
  obtain ⟨f, fd, ps, hc, hm, F, b⟩ := c.ex
  exact pe_meth he hc hm F (hr.mono hk) b .nil pass0 ha hst hpl ht
theorem vx_meth0 {pl : Sem Bool} (c : MetC X.prog X.w X.K X.mg X.base k C m sp) (hr : Room j X.A) (hk : k ≤ j) (he : PE X o ta)
    (ht : eval (.Call (.Attribute o m apos) [] [] pos) X.env = (do
      let ov ← eval o X.env
      standAt apos.atName
      let (f, first) ← holding [ov] (getMethod ov m pl)
      callWith pos f first (backTo pos (starEach [] X.env)) (backToKw pos (keywordEach [] X.env))) := by rfl) :
    PE X (.Call (.Attribute o m apos) [] [] pos) (tMeth C m sp [] E0 ta tNil) := by
  obtain ⟨f, fd, ps, hc, hm, F, b⟩ := c.ex
  exact pe_meth0 he hc hm F (hr.mono hk) b .nil pass0 ht
theorem vx_prop (c : PropC X.prog X.w X.K X.mg X.base k C m sp) (hr : Room j X.A) (hk : k + 1 ≤ j) (he : PE X o ta) (hab : attributeBase o m X.env (eval o X.env) = eval o X.env) : PE X (.Attribute o m pos) (tProp C sp [] E0 ta) := by
  obtain ⟨q, f, fd, ps, hc, hp, F, b⟩ := c.ex
  exact pe_prop he hc hp F (hr.mono hk) b .nil pass0 hab
end
theorem iteBNT {b : Bool} {A B : Prop} (h : b = false) (k : A) : if (!b) = true then A else B := by rw [h]; exact iteT k
theorem iteNN {b : Bool} {A B : Prop} (h : if b = true then A else B) : if (!!b) = true then A else B := by rw [Bool.not_not]; exact h
theorem iteBNF {b : Bool} {A B : Prop} (h : b = true) (k : B) : if (!b) = true then A else B := by rw [h]; exact iteF k
theorem shl_side {i j : Int} (h0 : 0 ≤ j) (h1 : j ≤ 4096) (h2 : -(2 ^ 4096) < i) (h3 : i < 2 ^ 4096) : CShl i j := by
  obtain ⟨k, rfl⟩ := Int.eq_ofNat_of_zero_le h0
  exact shl_ok (n := 4096) (by omega) (by omega)
end Vx

namespace Vx
open PySem PySem.Spec PyProof.Rows L2
section
variable {X : Cx} {K : PySem.W.Frag}
theorem fldK {e : Expr} {f : Str} {pos : Pos} {ta : TE} (he : PE X e ta) (hb : attributeBase e f X.env (eval e X.env) = eval e X.env := by rfl) (hK : X.K = K := by rfl) : PE X (.Attribute e f pos) (tFld K ta f) := hK ▸ pe_fld he hb
theorem pg_tupK {es : List Expr} {k : Nat} {t : TGs} {n : Nat} {pos : Pos} (h : PGs X es t) (hc : X.calm = true := by rfl)
    (hn : (assignEach es X.env).length = n := by rfl) (hst : (assignEach es X.env).findIdx? (·.1) = none := by rfl) (hK : X.K = K := by rfl) : PG X (.Tuple es k pos) (gTup K n t) := hK ▸ pg_tup hc h hn hst
end
end Vx

namespace Vx
open PySem PySem.Spec PyProof.Rows L2
section
variable {α β : Type} {f : α → PyData} {g : β → PyData} {fv : α → V} {gv : β → V} {G : Hp} {vs ws : List V} {xs : List α} {ys : List β}
theorem big1 {n : Nat} (h : n ≤ 1000000) : n ≤ sizeLine := smallE h
theorem cat_len (a : RpAll G vs (xs.map f)) (b : RpAll G ws (ys.map g)) (h : xs.length + ys.length ≤ 1000000) : vs.length + ws.length ≤ sizeLine := by
  rw [a.len, b.len, List.length_map, List.length_map]; exact smallE h
theorem cat_lenM (h : xs.length + ys.length ≤ 1000000) : (xs.map fv).length + (ys.map gv).length ≤ sizeLine := by
  rw [List.length_map, List.length_map]; exact smallE h
theorem rep_len {k : Nat} (a : RpAll G vs (xs.map f)) (h : xs.length * k ≤ 1000000) : vs.length * k ≤ sizeLine := by
  rw [a.len, List.length_map]; exact smallE h
theorem rep_lenM {k : Nat} (h : xs.length * k ≤ 1000000) : (xs.map fv).length * k ≤ sizeLine := by
  rw [List.length_map]; exact smallE h
theorem app_len (a : RpAll G vs (xs.map f)) (h : xs.length ≤ 1000000) : vs.length < sizeLine := by
  rw [a.len, List.length_map]; exact small h
theorem app_lenM (h : xs.length ≤ 1000000) : (xs.map fv).length < sizeLine := by
  rw [List.length_map]; exact small h
theorem cutL_len {α : Type} (xs : List α) (lo hi : Option Int) : (cutL xs lo hi).length ≤ xs.length := by
  unfold cutL
  rw [List.length_take, List.length_drop]
  omega
theorem repL_len {α : Type} (xs : List α) (k : Int) : (repL xs k).length = k.toNat * xs.length := by
  unfold repL
  simp
end
end Vx
/-! # promises of defs that know that nothing is being shown (so that repr may be called) -/
namespace Vx
open PySem PySem.Spec PyProof.Rows L2
structure RoomG (k : Nat) (A : Around) : Prop extends Room k A where
  gd : A.guards = some []
theorem RoomG.low {j k : Nat} {A : Around} (r : RoomG k A) (h : j ≤ k) : RoomG j A := ⟨r.toRoom.mono h, r.gd⟩
theorem RoomG.one {k : Nat} {A : Around} (r : RoomG (k + 1) A) : RoomG k A.in1 := ⟨r.toRoom.in1, r.gd⟩
theorem make_gd {A : Around} (C : Addr) (us : List Value) (kw : List (Str × Value)) (h : A.guards = some []) : (A.under (.builtin "type.__call__" ⟨.ref C :: us, kw⟩)).guards = some [] := by
  obtain ⟨hd, d, fr, gs, u⟩ := A
  subst h
  simp [Around.under, Code.guards, Code.isGuard, guardIds, pushGuards]
theorem RoomG.made {k : Nat} {A : Around} (r : RoomG (k + 1) A) (C : Addr) (us : List Value) (kw : List (Str × Value)) : RoomG k (A.under (.builtin "type.__call__" ⟨.ref C :: us, kw⟩)) := ⟨r.toRoom.make C us kw, make_gd C us kw r.gd⟩
structure FnG (P : Program) (w : World) (K : PySem.W.Frag) (mg : Str → Option Value) (base : Heap) (cx : CXT) (k : Nat) (f : Addr) (fd : FuncData) (ps : List Str) (sp : Sp) : Prop where
  len : ∀ vs H Q E, sp vs H Q E → vs.length = ps.length
  run : ∀ (A : Around) (outer : List Env) (s : Shared) (H : Hp) (args : Args) (us : List Value) (vs : List V) (Q : VK) (E : XK), RoomG k A → Env0 P w K mg base A outer s H → BindsTo s fd args (ps.zip us) → Vals vs us → sp vs H Q E → codeAny (model P w) A (.call (.ref f) args) (CR cx outer P w H s Q E) s
section
variable {P : Program} {w : World} {K : PySem.W.Frag} {mg : Str → Option Value} {base : Heap} {cx : CXT} {j k : Nat} {f : Addr} {fd : FuncData} {ps : List Str} {sp sp' : Sp}
theorem FnG.imp (F : FnG P w K mg base cx k f fd ps sp) (h : ∀ vs H Q E, sp' vs H Q E → sp vs H Q E) : FnG P w K mg base cx k f fd ps sp' := ⟨fun vs H Q E q => F.len vs H Q E (h vs H Q E q), fun A o s H a us vs Q E r e b v q => F.run A o s H a us vs Q E r e b v (h vs H Q E q)⟩
/-- the body's promise is the def's -/
theorem FnG.body {x qual : Str} {params : Arguments} {body : List Stmt} {scope : Scope} {dvs : List V} {kws : List (Str × V)} {N : List Str} (F : FunD K x qual params body scope dvs kws f fd) (S : FnScope N ps scope) (len : ∀ vs H Q E, sp vs H Q E → vs.length = ps.length)
    (hb : ∀ (cdv : Value) (A : Around) (outer : List Env) (s : Shared) (H : Hp) (vs : List V) (Q : VK) (E : XK), RoomG k (A.deeper (envOfC qual scope s.heap.objs.size f cdv)) → sp vs H Q E →
      ∃ t, PSs (cxOf cx P w K mg base N qual scope f cdv A outer s H E) body t ∧ t { nx := fun _ H' => Q .non H', rt := Q } (start N vs) H) : FnG P w K mg base cx (k + 1) f fd ps sp := by
  obtain ⟨oc, od, dV, kV, doc, pm, an, cdv, ct, osl, rfl, lk, code, _, _⟩ := F.ex
  constructor
  · exact len
  · intro A outer s H args us vs Q E room env binds vals prom
    have nvs := len vs H Q E prom
    have kin : K.In s.heap := env.mod.kin.keeps fun b o q => (env.bs b o q).1
    have nolim : s.heap.NoLimit := env.mod.nolimit.keeps fun b o q => (env.bs b o q).1
    have kinds : ∀ q ∈ ps.zip us, scope.names.lookup q.1 = some .local ∨ (scope.names.lookup q.1 = some .cell ∧ ((cellsFrom (s.heap.objs.size + 1) scope.names []).lookup q.1).isSome = true) := by
      rintro ⟨n, v⟩ hq
      cases S.par n (List.of_mem_zip hq).1 with
      | inl z => exact .inl z
      | inr z => exact .inr ⟨z, PySem.W.cellsFrom_some _ _ _ (.inl z)⟩
    refine codeAny_call_function room.toRoom.depth (kin _ _ lk) rfl S.co S.gen rfl (PySem.W.codeRec_of kin code) (binds _ _ _ _ ?_)
    refine wpAny_newFunctionEnv_cells S.kind kinds ?_
    rintro _ rfl s1 made
    refine ⟨nolim.keeps made.toInCall.keep, codeAny_func ?_⟩
    obtain ⟨t, pss, start_⟩ := hb cdv A outer s H vs Q E ⟨room.toRoom.deeper _, room.gd⟩ prom
    have inv := inv_start (CX := cx) (E := E) S room.hd env nvs vals made
    have close : ∀ {τ : L2.St} {H2 : Hp} {v : V} {u : Value} {s2 : Shared}, Inv (cxOf cx P w K mg base N qual scope f cdv A outer s H E) [] τ H2 s2 → RelV v u → Q v H2 → CE outer P w H s Q u s2 := fun inv2 rel q => ⟨_, _, inv2.os, inv2.bare, inv2.base, inv2.hok, rel, q⟩
    refine wpAny_mono (pss.run [] s1 (start N vs) H _ inv start_) ?_ fun _ _ z => z
    intro flow s2 out
    cases flow with
    | next =>
      obtain ⟨τ, H2, inv2, q⟩ := out
      exact close (v := .non) (u := .none) inv2 rfl q
    | ret u =>
      obtain ⟨v, τ, H2, inv2, rel, q⟩ := out
      exact close inv2 rel q
    | brk =>
      obtain ⟨_, _, _, q⟩ := out
      exact q.elim
    | cont =>
      obtain ⟨_, _, _, q⟩ := out
      exact q.elim
/-- the same of a body that nothing leaves -/
theorem FnG.bodyN {x qual : Str} {params : Arguments} {body : List Stmt} {scope : Scope} {dvs : List V} {kws : List (Str × V)} {N : List Str} (F : FunD K x qual params body scope dvs kws f fd) (S : FnScope N ps scope) (len : ∀ vs H Q E, sp vs H Q E → vs.length = ps.length)
    (hb : ∀ (cdv : Value) (A : Around) (outer : List Env) (s : Shared) (H : Hp) (vs : List V) (Q : VK) (E : XK), RoomG k (A.deeper (envOfC qual scope s.heap.objs.size f cdv)) → sp vs H Q E →
      ∃ t, PSs (cxOf CX0 P w K mg base N qual scope f cdv A outer s H E).nox body t ∧ t { nx := fun _ H' => Q .non H', rt := Q } (start N vs) H) : FnG P w K mg base CX0 (k + 1) f fd ps sp :=
  FnG.body F S len fun cdv A outer s H vs Q E r p => by
    obtain ⟨t, h, q⟩ := hb cdv A outer s H vs Q E r p
    exact ⟨t, h.nox, q⟩
end
/-- where a law's call begins: an abstract heap that tells the script at most -/
theorem law_start {P : Program} {w : World} {K : PySem.W.Frag} {mg mb : Str → Option Value} {a : Addr} {s : Shared} {vs : List Value} {ns : List Int} (kin : K.In s.heap) (top : s.heap.Ns mainGlobals mg) (blt : s.heap.Ns builtinsNs mb) (boot : ∀ y : Str, y ≠ "__name__" → mb y = bootBuiltins y)
    (lim : s.heap.NoLimit) (gens : s.gens = #[]) (script : s.heap.get? a = some { cls := .type "list", data := .seq vs.toArray }) (whole : IntsAre vs ns) (short : ns.length ≤ sizeLine) :
    ∃ (H : Hp) (base : Heap), SqL K H a (ns.map V.int) ∧ K.In base ∧ base.Ns mainGlobals mg ∧ Env0 P w K mg base callerA [] s H ∧
      ∀ (Z : V → Prop) (u : Value) (s2 : Shared), CE [] P w H s (fun v _ => Z v) u s2 → (∃ v, RelV v u ∧ Z v) ∧ OldK s.heap s2.heap ∧ s2.os = s.os ∧ AllBare s2.gens := by
  have rel := vals_ints whole
  have lenV := whole.length
  -- any H that tells no more than the script, and that only where the written part does not hold it, will do
  have fits : ∀ H : Hp, (∀ b, H b = none ∨ ∃ o xs, H b = some (.frz o (.lst xs))) → SqL K H a (ns.map V.int) → HOk P w H s.heap → (∀ b, b ≠ a → H b = none) → (∀ o, K.lookup a = some o → H a = none) →
      ∃ (H : Hp) (base : Heap), SqL K H a (ns.map V.int) ∧ K.In base ∧ base.Ns mainGlobals mg ∧ Env0 P w K mg base callerA [] s H ∧
        ∀ (Z : V → Prop) (u : Value) (s2 : Shared), CE [] P w H s (fun v _ => Z v) u s2 → (∃ v, RelV v u ∧ Z v) ∧ OldK s.heap s2.heap ∧ s2.os = s.os ∧ AllBare s2.gens := by
    intro H only seq ok else_ apart
    have dictFree : ∀ (b : Addr) (o : Obj) (es : Array DictEntry) (n : Nat), s.heap.get? b = some o → o.data = .dict es n → H b = none := by
      intro b o es n e d
      by_cases z : b = a
      · subst z
        rw [script] at e
        injection e with e
        subst e
        cases d
      · exact else_ b z
    have nsOf : ∀ {b : Addr} {m : Str → Option Value}, s.heap.Ns b m → (hidT s.heap H).Ns b m := by
      rintro b m ⟨o, es, n, e, d, r⟩
      exact ⟨o, es, n, hidT_get e (dictFree b o es n e d), d, r⟩
    have kinB : K.In (hidT s.heap H) := by
      intro b o e
      refine hidT_get (kin b o e) ?_
      by_cases z : b = a
      · subst z
        exact apart o e
      · exact else_ b z
    obtain ⟨mc, lim1, lim2⟩ := lim
    refine ⟨H, hidT s.heap H, seq, kinB, nsOf top, ⟨rfl, ⟨kinB, nsOf top, ⟨mb, nsOf blt, boot⟩, mc, nsOf lim1, lim2⟩, fun b o e => of_hidT e, Nat.le_of_eq (hidT_size _ _), trivial, fun b hb => (nomatch (show b ∈ ([] : List Addr) from hb)), ok, .of_eq gens⟩, ?_⟩
    rintro Z u s2 ⟨v, H2, os, bare, un, ok2, r, z⟩
    refine ⟨⟨v, r, z⟩, OldK.of_keep fun b o e => ?_, os, bare⟩
    rcases only b with n | ⟨o1, xs, n⟩
    · exact un.keep b o e n (fun y => nomatch (show b ∈ ([] : List Addr) from y)) (fun y => nomatch y)
    · obtain ⟨e1, _⟩ := ok b _ n
      obtain ⟨e2, _⟩ := ok2 b _ (un.frzs b o1 _ n)
      rw [e] at e1
      injection e1 with e1
      subst e1
      exact e2
  cases kl : K.lookup a with
  | some o =>
    have e := kin a o kl
    rw [script] at e
    injection e with e
    subst e
    exact fits (fun _ => none) (fun _ => .inl rfl) (.inr ⟨_, vs.toArray, _, kl, rfl, rfl, rfl, by rw [List.size_toArray, lenV]; exact short, by simpa using rel⟩) (fun _ _ z => nomatch z) (fun _ _ => rfl) fun _ _ => rfl
  | none =>
    refine fits (fun b => if b = a then some (.frz { cls := .type "list", data := .seq vs.toArray } (.lst (ns.map V.int))) else none) ?_ (.inl (.inr ⟨_, if_pos rfl⟩)) ?_ (fun b n => if_neg n) fun o z => ?_
    · intro b
      by_cases z : b = a
      · exact .inr ⟨_, _, if_pos z⟩
      · exact .inl (if_neg z)
    · intro b u q
      by_cases z : b = a
      · subst z
        have q := (if_pos rfl).symm.trans q
        injection q with q
        subst q
        exact ⟨script, by rw [List.length_map]; exact short, vs, _, rel, script⟩
      · have q := (if_neg z).symm.trans q
        cases q
    · rw [kl] at z
      cases z
/-- the goal that the head leaves, from the law's promise; the script's numbers have at most 2 ^ 20 bits -/
theorem walkG {l : PySem.W.OpenLaw} {n k : Nat} {q : Program} {loose : List Str} {XP : (Str → Option Value) → Heap → Prop} {YP : World → Heap → Prop} {d : DefRec} {K : Params → PySem.W.Frag} {x : Str} (hn : l.most = some n) (hn2 : n ≤ sizeLine) (hdf : d.params.defaults = []) (room : Room k callerA)
    (hY : ∀ (w : World) (h : Heap), YP w h → (K w.params).In h)
    (F : ∀ (w : World) (mg : Str → Option Value) (fa : Addr) (h : Heap), (K w.params).In h → h.Ns mainGlobals mg → mg d.name = some (.ref fa) →
      ∃ fd : FuncData, (∀ (s : Shared) (u : Value), BindsTo s fd ⟨[u], []⟩ [(x, u)]) ∧ ∀ base : Heap, (K w.params).In base → base.Ns mainGlobals mg → FnG l.prog w (K w.params) mg base CX0 k fa fd [x] (fun vs H Q _ => ∃ (a : Addr) (ns : List Int), vs = [.ref a] ∧ SqL (K w.params) H a (ns.map V.int) ∧ ns.length ≤ n ∧ ∀ H', Q (.bl true) H')) :
    PySem.W.WalkO q loose XP YP l.row.toRowW d [] (fun f vs => PySem.call f vs) := by
  refine Att.attach_call hn hdf ?_
  intro w s₀ s₁ mg mb fa o pm cd doc a vs ns G Y _ _ _ hmg script whole short gens
  have kin := hY w _ Y
  obtain ⟨fd, bind, prom⟩ := F w mg fa _ kin G.T.g hmg
  obtain ⟨H, base, seq, kinB, nsB, env, fin⟩ := law_start (P := l.prog) (w := w) kin G.T.g G.T.b G.T.builtins G.T.nolimit gens script whole (Nat.le_trans short hn2)
  refine codeAny_mono ((prom base kinB nsB).run callerA [] s₁ H ⟨[.ref a], []⟩ [.ref a] [.ref a] (fun v _ => v = .bl true) (fun _ _ _ => False) ⟨room, rfl⟩ env (bind s₁ (.ref a)) (.cons rfl .nil) ⟨a, ns, rfl, seq, short, fun _ => rfl⟩) ?_
  intro r s2 out
  cases r with
  | error e => exact out.elim
  | ok flow =>
    cases flow with
    | ret u =>
      obtain ⟨⟨v, rv, z⟩, h1, h2, h3⟩ := fin (fun v => v = .bl true) u s2 out
      subst z
      obtain rfl : u = Value.bool true := rv
      exact ⟨rfl, h1, h2, h3⟩
    | next => exact out.elim
    | brk => exact out.elim
    | cont => exact out.elim
end Vx
/-! # third part: what a def computes, as a plain function with refusals -/
namespace Vx
open PySem PySem.Spec PyProof.Rows L2
inductive Rx (α : Type) where
  | ok (a : α)
  | er (e : Nat)
  | bad
def Rx.bind {α β : Type} (m : Rx α) (f : α → Rx β) : Rx β :=
  match m with
  | .ok a => f a
  | .er e => .er e
  | .bad => .bad
/-- what is wanted of an outcome -/
@[irreducible] def cW {α : Type} (m : Rx α) (K : α → Prop) (E : Nat → Prop) : Prop :=
  match m with
  | .ok a => K a
  | .er e => E e
  | .bad => False
def grd {α : Type} (p : Prop) [Decidable p] (m : Rx α) : Rx α := if p then m else .bad
/-- within a comprehension nothing may be raised -/
def noEr {α : Type} (m : Rx α) : Rx α :=
  match m with
  | .ok a => .ok a
  | _ => .bad
/-- what the clause does not name may not come -/
def tryR {α β : Type} (m : Rx α) (cs : List Nat) (f : α → Rx β) (h : Nat → Rx β) : Rx β :=
  match m with
  | .ok a => f a
  | .er e => if e ∈ cs then h e else .bad
  | .bad => .bad
def bnd {α β : Type} (a : α) (f : α → Rx β) : Rx β := f a
inductive Lp (σ ρ : Type) where
  | go (s : σ)
  | bk (s : σ)
  | rt (r : ρ)
def Lp.aft {σ ρ τ : Type} (l : Lp σ ρ) (kr : ρ → Rx τ) (k : σ → Rx τ) : Rx τ :=
  match l with
  | .go s => k s
  | .bk s => k s
  | .rt r => kr r
def forS {σ α : Type} : List α → σ → (σ → α → Rx σ) → Rx σ
  | [], s, _ => .ok s
  | x :: r, s, f => (f s x).bind fun s' => forS r s' f
def forR {σ α ρ : Type} : List α → σ → (σ → α → Rx (Lp σ ρ)) → Rx (Lp σ ρ)
  | [], s, _ => .ok (.go s)
  | x :: r, s, f => (f s x).bind fun l =>
    match l with
    | .go s' => forR r s' f
    | .bk s' => .ok (.go s')
    | .rt v => .ok (.rt v)
def whileR {σ ρ : Type} : Nat → σ → (σ → Rx (Lp σ ρ)) → Rx (Lp σ ρ)
  | 0, _, _ => .bad
  | n + 1, s, f => (f s).bind fun l =>
    match l with
    | .go s' => whileR n s' f
    | .bk s' => .ok (.go s')
    | .rt v => .ok (.rt v)
def mapA {α β : Type} : List α → List β → (α → Rx β) → Rx (List β)
  | [], acc, _ => .ok acc
  | x :: r, acc, f => grd (acc.length ≤ 1000000) ((f x).bind fun y => mapA r (acc ++ [y]) f)
def mapF {α β : Type} : List α → List β → (α → Rx (Option β)) → Rx (List β)
  | [], acc, _ => .ok acc
  | x :: r, acc, f => grd (acc.length ≤ 1000000) ((f x).bind fun y =>
    match y with
    | some z => mapF r (acc ++ [z]) f
    | none => mapF r acc f)
section
variable {α β γ σ ρ τ : Type} {K : α → Prop} {E : Nat → Prop}
theorem cW_ok {a : α} (h : cW (.ok a) K E) : K a := by
  unfold cW at h
  exact h
theorem cW_er {e : Nat} (h : cW (.er e : Rx α) K E) : E e := by
  unfold cW at h
  exact h
theorem cW_bad {C : Prop} (h : cW (.bad : Rx α) K E) : C := by
  unfold cW at h
  exact h.elim
theorem cW_mk {a : α} (h : K a) : cW (.ok a) K E := by
  unfold cW
  exact h
theorem cW_mkE {e : Nat} (h : E e) : cW (.er e : Rx α) K E := by
  unfold cW
  exact h
theorem cW_gen {m : Rx α} (h : cW m K E) : ∃ (K' : α → Prop) (E' : Nat → Prop), (∀ v, K' v → K v) ∧ (∀ e, E' e → E e) ∧ cW m K' E' := ⟨K, E, fun _ x => x, fun _ x => x, h⟩
theorem cW_grd {p : Prop} {dp : Decidable p} {m : Rx α} (h : cW (grd p m) K E) : p ∧ cW m K E := by
  unfold grd at h
  split at h
  · exact ⟨‹p›, h⟩
  · exact cW_bad h
theorem cW_pos {p : Prop} {dp : Decidable p} {a b : Rx α} (c : p) (h : cW (if p then a else b) K E) : cW a K E := by rwa [if_pos c] at h
theorem cW_neg {p : Prop} {dp : Decidable p} {a b : Rx α} (c : ¬ p) (h : cW (if p then a else b) K E) : cW b K E := by rwa [if_neg c] at h
theorem cW_call {m : Rx β} {f : β → Rx α} {K2 : β → Prop} {E2 : Nat → Prop} (h : cW (m.bind f) K E) (ho : ∀ v, cW (f v) K E → K2 v) (he : ∀ e, E e → E2 e) : cW m K2 E2 := by
  cases m with
  | ok a => exact cW_mk (ho a h)
  | er e => exact cW_mkE (he e (cW_er (α := α) h))
  | bad => exact cW_bad (α := α) h
theorem cW_push {m : Rx β} {f : β → Rx α} (h : cW (m.bind f) K E) : ∃ K2 : β → Prop, (∀ v, K2 v → cW (f v) K E) ∧ cW m K2 E := ⟨fun v => cW (f v) K E, fun _ x => x, cW_call h (fun _ x => x) fun _ x => x⟩
theorem cW_name {m : Rx α} (h : cW m K E) : ∃ K' : α → Prop, (∀ v, K' v → K v) ∧ cW m K' E := ⟨K, fun _ x => x, h⟩
theorem cW_noEr {m : Rx α} (h : cW (noEr m) K E) : cW m K (fun _ => False) := by
  cases m with
  | ok a => exact cW_mk (cW_ok (α := α) h)
  | er e => exact cW_bad (α := α) h
  | bad => exact cW_bad (α := α) h
theorem cW_try {m : Rx β} {cs : List Nat} {f : β → Rx α} {g : Nat → Rx α} {K2 : β → Prop} {E2 : Nat → Prop} (h : cW (tryR m cs f g) K E) (ho : ∀ v, cW (f v) K E → K2 v) (hc : ∀ e, e ∈ cs → cW (g e) K E → E2 e) : cW m K2 E2 := by
  cases m with
  | ok a => exact cW_mk (ho a h)
  | er e =>
    have h2 : cW (if e ∈ cs then g e else .bad) K E := h
    by_cases q : e ∈ cs
    · exact cW_mkE (hc e q (cW_pos q h2))
    · exact cW_bad (cW_neg q h2)
  | bad => exact cW_bad (α := α) h
theorem cW_bnd {a : β} {f : β → Rx α} (h : cW (bnd a f) K E) : cW (f a) K E := h
theorem cW_negB {b : Bool} {x y : Rx α} (c : b = false) (h : cW (if b = true then x else y) K E) : cW y K E := cW_neg (by rw [c]; decide) h
theorem cW_forS {xs : List β} {i : Nat} {x : β} {s : α} {f : α → β → Rx α} (hx : xs[i]? = some x) (h : cW (forS (xs.drop i) s f) K E) : cW (f s x) (fun s' => cW (forS (xs.drop (i + 1)) s' f) K E) E := by
  rw [List.drop_eq_getElem?_toList_append, hx] at h
  exact cW_call h (fun _ z => z) fun _ z => z
theorem cW_forS0 {xs : List β} {n : Nat} {s : α} {f : α → β → Rx α} (hn : n = xs.length) (h : cW (forS (xs.drop n) s f) K E) : K s := by
  subst hn
  rw [List.drop_length] at h
  exact cW_ok h
theorem cW_forR {K : Lp σ ρ → Prop} {xs : List β} {i : Nat} {x : β} {s : σ} {f : σ → β → Rx (Lp σ ρ)} (hx : xs[i]? = some x) (h : cW (forR (xs.drop i) s f) K E) :
    cW (f s x) (fun l => match l with | .go s' => cW (forR (xs.drop (i + 1)) s' f) K E | .bk s' => K (.go s') | .rt v => K (.rt v)) E := by
  rw [List.drop_eq_getElem?_toList_append, hx] at h
  refine cW_call h (fun l z => ?_) fun _ z => z
  cases l with
  | go s' => exact z
  | bk s' => exact cW_ok (K := K) (a := .go s') z
  | rt v => exact cW_ok (K := K) (a := .rt v) z
theorem cW_forR0 {K : Lp σ ρ → Prop} {xs : List β} {n : Nat} {s : σ} {f : σ → β → Rx (Lp σ ρ)} (hn : n = xs.length) (h : cW (forR (xs.drop n) s f) K E) : K (.go s) := by
  subst hn
  rw [List.drop_length] at h
  exact cW_ok h
theorem cW_whileR {K : Lp σ ρ → Prop} {m : Nat} {s : σ} {f : σ → Rx (Lp σ ρ)} (h : cW (whileR m s f) K E) :
    ∃ n, m = n + 1 ∧ cW (f s) (fun l => match l with | .go s' => cW (whileR n s' f) K E | .bk s' => K (.go s') | .rt v => K (.rt v)) E := by
  cases m with
  | zero => exact cW_bad h
  | succ n =>
    refine ⟨n, rfl, cW_call h (fun l z => ?_) fun _ z => z⟩
    cases l with
    | go s' => exact z
    | bk s' => exact cW_ok (K := K) (a := .go s') z
    | rt v => exact cW_ok (K := K) (a := .rt v) z
theorem cW_mapA {K : List α → Prop} {xs : List β} {acc : List α} {i : Nat} {x : β} {f : β → Rx α} (hx : xs[i]? = some x) (h : cW (mapA (xs.drop i) acc f) K E) :
    acc.length ≤ 1000000 ∧ cW (f x) (fun y => cW (mapA (xs.drop (i + 1)) (acc ++ [y]) f) K E) E := by
  rw [List.drop_eq_getElem?_toList_append, hx] at h
  obtain ⟨z, h⟩ := cW_grd h
  exact ⟨z, cW_call h (fun _ z => z) fun _ z => z⟩
theorem cW_mapA0 {K : List α → Prop} {xs : List β} {acc : List α} {n : Nat} {f : β → Rx α} (hn : n = xs.length) (h : cW (mapA (xs.drop n) acc f) K E) : K acc := by
  subst hn
  rw [List.drop_length] at h
  exact cW_ok h
theorem cW_mapF {K : List α → Prop} {xs : List β} {acc : List α} {i : Nat} {x : β} {f : β → Rx (Option α)} (hx : xs[i]? = some x) (h : cW (mapF (xs.drop i) acc f) K E) :
    acc.length ≤ 1000000 ∧ cW (f x) (fun y => match y with | some z => cW (mapF (xs.drop (i + 1)) (acc ++ [z]) f) K E | none => cW (mapF (xs.drop (i + 1)) acc f) K E) E := by
  rw [List.drop_eq_getElem?_toList_append, hx] at h
  obtain ⟨z, h⟩ := cW_grd h
  refine ⟨z, cW_call h (fun y z => ?_) fun _ z => z⟩
  cases y with
  | none => exact z
  | some w => exact z
theorem cW_mapF0 {K : List α → Prop} {xs : List β} {acc : List α} {n : Nat} {f : β → Rx (Option α)} (hn : n = xs.length) (h : cW (mapF (xs.drop n) acc f) K E) : K acc := by
  subst hn
  rw [List.drop_length] at h
  exact cW_ok h
end
/-- the numbers of a range -/
def rng (lo : Int) (n : Nat) : List Int := (List.range n).map fun (j : Nat) => lo + (j : Int)
theorem rng_get {lo : Int} {n i : Nat} (h : i < n) : (rng lo n)[i]? = some (lo + (i : Int)) := by
  unfold rng
  rw [List.getElem?_map, List.getElem?_range h] <;> rfl
theorem rng_len (lo : Int) (n : Nat) : (rng lo n).length = n := by
  unfold rng
  rw [List.length_map, List.length_range]

def rngD (lo : Int) (n : Nat) : List Int := (List.range n).map fun (j : Nat) => lo + (j : Int) * (-1)
theorem rngD_get {lo : Int} {n i : Nat} (h : i < n) : (rngD lo n)[i]? = some (lo + (i : Int) * (-1)) := by
  unfold rngD
  rw [List.getElem?_map, List.getElem?_range h] <;> rfl
theorem rngD_len (lo : Int) (n : Nat) : (rngD lo n).length = n := by
  unfold rngD
  rw [List.length_map, List.length_range]

/-! ### calls that may raise -/
/-- what a call with n values and keywords ks gives the parameters -/
structure Bnd (K : PySem.W.Frag) (fd : FuncData) (ps : List Str) (n : Nat) (ks : List Str) (g : List V → List V → List V) : Prop where
  to : ∀ (s : Shared) (us ws : List Value) (vs zs : List V), K.In s.heap → vs.length = n → zs.length = ks.length → Vals vs us → Vals zs ws → ∃ vv : List Value, BindsTo s fd ⟨us, ks.zip ws⟩ (ps.zip vv) ∧ Vals (g vs zs) vv
theorem Bnd.of_kbn {K : PySem.W.Frag} {fd : FuncData} {ps ks : List Str} {n : Nat} {g : List Value → List Value → List Value} {gV : List V → List V → List V} (b : KBn K fd ps n ks g gV) : Bnd K fd ps n ks gV :=
  ⟨fun s us ws vs zs X l1 l2 r rz => ⟨g us ws, b.to s us ws X (r.length.symm.trans l1) (rz.length.symm.trans l2), b.rel r rz⟩⟩
theorem Bnd.all {K : PySem.W.Frag} {fd : FuncData} {ps ks : List Str} {n : Nat} {g : List V → List V → List V} (h : ∀ (us ws : List Value) (vs zs : List V), vs.length = n → zs.length = ks.length → Vals vs us → Vals zs ws →
    ∃ vv : List Value, bindArgs fd ⟨us, ks.zip ws⟩ = pure (ps.zip vv) ∧ Vals (g vs zs) vv) : Bnd K fd ps n ks g :=
  ⟨fun s us ws vs zs _ l1 l2 r rz => by
    obtain ⟨vv, e, q⟩ := h us ws vs zs l1 l2 r rz
    exact ⟨vv, BindsTo.of_eq e, q⟩⟩
abbrev Pat := Nat × List Str × (List V → List V → List V)
def Bnd1 (K : PySem.W.Frag) (fd : FuncData) (ps : List Str) (p : Pat) : Prop := Bnd K fd ps p.1 p.2.1 p.2.2
section
variable {P : Program} {w : World} {K : PySem.W.Frag} {mg : Str → Option Value} {base : Heap}
/-- a def of the top, with the ways it is called -/
structure DefX (K : PySem.W.Frag) (mg : Str → Option Value) (x : Str) (st : Stmt) (ps : List Str) (pats : List Pat) : Prop where
  ex : ∃ (f : Addr) (fd : FuncData) (dvs : List V) (kws : List (Str × V)), FunD K x x (defArgs st) (defBody st) (defScope st) dvs kws f fd ∧ mg x = some (.ref f) ∧ ∀ p ∈ pats, Bnd1 K fd ps p
structure CalX (P : Program) (w : World) (K : PySem.W.Frag) (mg : Str → Option Value) (base : Heap) (k : Nat) (x : Str) (sp : Sp) (pats : List Pat) : Prop where
  ex : ∃ (f : Addr) (fd : FuncData) (ps : List Str), FnG P w K mg base (L2.CX P w) k f fd ps sp ∧ mg x = some (.ref f) ∧ PySem.W.keepIn K (.ref f) = true ∧ ∀ p ∈ pats, Bnd1 K fd ps p
abbrev BodyX (P : Program) (w : World) (K : PySem.W.Frag) (mg : Str → Option Value) (base : Heap) (x : Str) (st : Stmt) (N : List Str) (k : Nat) (sp : Sp) : Prop :=
  ∀ (f : Addr) (cdv : Value) (A : Around) (outer : List Env) (s : Shared) (H : Hp) (vs : List V) (Q : VK) (E : XK), RoomG k (A.deeper (envOfC x (defScope st) s.heap.objs.size f cdv)) → sp vs H Q E →
    ∃ t, PSs (cxOf (L2.CX P w) P w K mg base N x (defScope st) f cdv A outer s H E) (defBody st) t ∧ t { nx := fun _ H' => Q .non H', rt := Q } (start N vs) H
theorem DefX.ok {x : Str} {st : Stmt} {N ps : List Str} {pats : List Pat} {k : Nat} {sp : Sp} (D : DefX K mg x st ps pats) (S : FnScope N ps (defScope st)) (len : ∀ vs H Q E, sp vs H Q E → vs.length = ps.length)
    (hbody : BodyX P w K mg base x st N k sp) : CalX P w K mg base (k + 1) x sp pats := by
  obtain ⟨f, fd, dvs, kws, F, hm, b⟩ := D.ex
  exact ⟨f, fd, ps, FnG.body F S len (fun cdv A outer s H vs Q E hr h => hbody f cdv A outer s H vs Q E hr h), hm, F.kp, b⟩
end
section
variable {X : Cx} {k j n : Nat} {f : Addr} {fd : FuncData} {ps ks : List Str} {g : List V → List V → List V} {sp : Sp} {x : Str} {pos p : Pos} {e : Expr} {es : List Expr} {kws : List Keyword} {t tk : TA} {W : WX}
theorem run_X {pins : List (Addr × Obj)} {σ : L2.St} {H : Hp} {s : Shared} {Q : VK} {us ws : List Value} {vs zs : List V} (F : FnG X.prog X.w X.K X.mg X.base (L2.CX X.prog X.w) k f fd ps sp) (hr : RoomG k X.A) (hb : Bnd X.K fd ps n ks g) (tkW : Takes X W)
    (I : Inv X pins σ H s) (r : Vals vs us) (rz : Vals zs ws) (l1 : vs.length = n) (l2 : zs.length = ks.length) (h : sp (g vs zs) H Q (WE W σ)) :
    wpAny (model X.prog X.w) X.A (call (.ref f) us (ks.zip ws)) (EP X pins σ Q) X.xe s := by
  obtain ⟨vv, b, r2⟩ := hb.to s us ws vs zs I.kIn l1 l2 r rz
  refine wpAny_call (codeAny_mono (F.run X.A X.stack s H ⟨us, ks.zip ws⟩ vv (g vs zs) Q (WE W σ) hr I.env0 b r2 h) fun rr s' hq => ?_)
  cases rr with
  | error er => exact passAt tkW σ pins H s er s' I hq
  | ok fl =>
    cases fl with
    | ret u => exact I.after hq
    | next => exact hq.elim
    | brk => exact hq.elim
    | cont => exact hq.elim
/-- f(e, .., k = v, ..) -/
def tCallX (n m : Nat) (sp : Sp) (g : List V → List V → List V) (W : WX) (t tk : TA) : TE := fun σ H Q => t σ H fun vs H1 => tk σ H1 fun zs H2 => vs.length = n ∧ zs.length = m ∧ sp (g vs zs) H2 Q (WE W σ)
theorem vx_callX {pats : List Pat} (c : CalX X.prog X.w X.K X.mg X.base k x sp pats) (pt : Pat) (hpt : pt ∈ pats) (hr : RoomG j X.A) (hk : k ≤ j) (tkW : Takes X W) (hg : Gl X x) (ha : PA X (e :: es) t) (hkw : PK X kws tk)
    (hall : (backToKw pos (keywordEach kws X.env)).all (·.1.isSome) = true := by rfl) (hks : (backToKw pos (keywordEach kws X.env)).filterMap (·.1) = pt.2.1 := by rfl)
    (hdb : (x == ("__debug__" : Str)) = false := by decide) (he : starEach (e :: es) X.env = (false, eval e X.env) :: starEach es X.env := by rfl)
    (hpl : ((backTo pos (starEach (e :: es) X.env)).any (·.1) || (backToKw pos (keywordEach kws X.env)).any (·.1.isNone)) = false := by rfl) :
    PE X (.Call (.Name x p) (e :: es) kws pos) (tCallX pt.1 pt.2.1.length sp pt.2.2 W t tk) := by
  obtain ⟨f, fd, ps, F, hm, kp, b⟩ := c.ex
  refine ⟨fun pins s σ H Q I h => ?_⟩
  refine wpAny_Call_Name_kw (ld_glob I hg hm ?_ hdb)
  refine PySem.W.callWith_KW (h₀ := X.base) I.ok.mod.kin kp hall (thn (ha.run pos pins s σ H _ I h) fun us s1 ⟨vs, H1, I1, r, q⟩ => ?_) hpl he
  refine thn (hkw.run pos pins s1 σ H1 _ I1 q) fun ws s2 ⟨zs, H2, I2, rz, l1, l2, q2⟩ => ⟨I2.kIn, ?_⟩
  rw [hks]
  exact run_X F (hr.low hk) (b pt hpt) tkW I2 r rz l1 l2 q2
theorem vx_callX0 {pats : List Pat} (c : CalX X.prog X.w X.K X.mg X.base k x sp pats) (pt : Pat) (hpt : pt ∈ pats) (hr : RoomG j X.A) (hk : k ≤ j) (tkW : Takes X W) (hg : Gl X x) (hks : pt.2.1 = [] := by rfl)
    (hdb : (x == ("__debug__" : Str)) = false := by decide) : PE X (.Call (.Name x p) [] [] pos) (tCallX pt.1 pt.2.1.length sp pt.2.2 W tNil tNil) := by
  obtain ⟨f, fd, ps, F, hm, kp, b⟩ := c.ex
  refine ⟨fun pins s σ H Q I h => ?_⟩
  refine wpAny_Call_Name_kw (ld_glob I hg hm ?_ hdb)
  obtain ⟨l1, l2, q2⟩ := h
  have hz := run_X (us := []) (ws := []) F (hr.low hk) (b pt hpt) tkW I .nil .nil l1 l2 q2
  rw [hks] at hz
  exact PySem.W.callWith_K0 I.kIn kp hz
end
/-! ### borrowed things -/
theorem Sep.bM {M : List Addr} {H0 G0 G H : Hp} {O : List (Addr)} (S : Sep M H0 G0 G H O) : Same (hideL M H0) H := fun b o e => by
  by_cases h : b ∈ M
  · rw [hideL_in h] at e
    cases e
  · rw [hideL_out h] at e
    exact S.base b o e h
theorem b_ne {M : List Addr} {H0 G0 G H : Hp} {O : List Addr} {a b : Addr} {o : HO} (h : (hideL M H0) a = some o) (S : Sep M H0 G0 G H O) (hb : b ∈ O) : a ≠ b := fun z => by
  subst z
  rcases (S.ow a hb).2.2 with q | q
  · rw [hideL_in q] at h
    cases h
  · by_cases hM : a ∈ M
    · rw [hideL_in hM] at h
      cases h
    · rw [hideL_out hM, q] at h
      cases h
theorem hide0 {H : Hp} : hideL [] H = H := by
  funext b
  unfold hideL
  rw [if_neg List.not_mem_nil]
theorem hide_nil {H : Hp} {a : Addr} {o : HO} (h : H a = some o) : (hideL [] H) a = some o := by
  rw [hide0]
  exact h
theorem Rp.hide_nil {H : Hp} {v : V} {d : PyData} (h : Rp H v d) : Rp (hideL [] H) v d := by
  rw [hide0]
  exact h
theorem Sep.startM {M : List Addr} {G H : Hp} (e : Same G H) (hM : ∀ a ∈ M, H a ≠ none) (hG : ∀ a ∈ M, G a = none) : Sep M H G G H M :=
  ⟨fun _ _ e _ => e, hM, e, Same.refl _, fun _ _ e => e, fun a ha => ⟨hG a ha, hM a ha, .inl ha⟩⟩
theorem Sep.gno {M : List Addr} {H0 G0 G H : Hp} {O L : List Addr} (S : Sep M H0 G0 G H O) (h : ∀ a ∈ L, a ∈ O) : ∀ a ∈ L, G a = none := fun a ha => (S.ow a (h a ha)).1
theorem RpAll.ixD {α : Type} [Inhabited α] {f : α → PyData} {H : Hp} {vs : List V} {xs : List α} {k : Int} (r : RpAll H vs (xs.map f)) (h : -(xs.length : Int) ≤ k ∧ k < xs.length) : ∃ v, atI vs k = some v ∧ Rp H v (f (itD xs k)) := by
  obtain ⟨v, x, h1, h2, h3⟩ := RpAll.ix r h
  refine ⟨v, h1, ?_⟩
  unfold itD
  rw [h2]
  exact h3
theorem tru_all {α : Type} [DecidableEq α] {f : α → PyData} {H : Hp} {vs : List V} {xs : List α} (r : RpAll H vs (xs.map f)) : (!decide (xs = [])) = !vs.isEmpty := by
  have h := r.len
  rw [List.length_map] at h
  cases xs <;> cases vs <;> simp_all
theorem ix_nn {α : Type} {xs : List α} {k : Int} (h0 : 0 ≤ k) (h1 : k < xs.length) : -(xs.length : Int) ≤ k ∧ k < xs.length := ⟨by omega, h1⟩
theorem all_nilQ {α : Type} {P : α → Prop} : ∀ x ∈ ([] : List α), P x := fun x h => by cases h
theorem all_consQ {α : Type} {P : α → Prop} {a : α} {l : List α} (h : P a) (t : ∀ x ∈ l, P x) : ∀ x ∈ a :: l, P x := fun x hx => by
  rcases List.mem_cons.mp hx with rfl | hx
  · exact h
  · exact t x hx
theorem mem_one {a b : Nat} (h : a ∈ [b]) : a = b := by simpa using h
theorem mem_cons2 {a b : Nat} {l : List Nat} (h : a ∈ b :: l) : a = b ∨ a ∈ l := List.mem_cons.mp h
theorem len0 {α : Type} {l : List α} (h : l.length = 0) : l = [] := List.length_eq_zero_iff.mp h
theorem len1 {α : Type} {l : List α} (h : l.length = 1) : ∃ a, l = [a] := List.length_eq_one_iff.mp h
theorem len_s {α : Type} {l : List α} {n : Nat} (h : l.length = n + 1) : ∃ a r, l = a :: r ∧ r.length = n := by
  cases l with
  | nil => cases h
  | cons a r => exact ⟨a, r, rfl, Nat.succ.inj h⟩
theorem len2 {α : Type} {l : List α} (h : l.length = 2) : ∃ a b, l = [a, b] := by
  obtain ⟨a, r, rfl, h2⟩ := len_s h
  obtain ⟨b, rfl⟩ := len1 h2
  exact ⟨a, b, rfl⟩
theorem len3 {α : Type} {l : List α} (h : l.length = 3) : ∃ a b c, l = [a, b, c] := by
  obtain ⟨a, r, rfl, h2⟩ := len_s h
  obtain ⟨b, c, rfl⟩ := len2 h2
  exact ⟨a, b, c, rfl⟩
theorem len4 {α : Type} {l : List α} (h : l.length = 4) : ∃ a b c d, l = [a, b, c, d] := by
  obtain ⟨a, r, rfl, h2⟩ := len_s h
  obtain ⟨b, c, d, rfl⟩ := len3 h2
  exact ⟨a, b, c, d, rfl⟩
theorem len5 {α : Type} {l : List α} (h : l.length = 5) : ∃ a b c d e, l = [a, b, c, d, e] := by
  obtain ⟨a, r, rfl, h2⟩ := len_s h
  obtain ⟨b, c, d, e, rfl⟩ := len4 h2
  exact ⟨a, b, c, d, e, rfl⟩
theorem len6 {α : Type} {l : List α} (h : l.length = 6) : ∃ a b c d e f, l = [a, b, c, d, e, f] := by
  obtain ⟨a, r, rfl, h2⟩ := len_s h
  obtain ⟨b, c, d, e, f, rfl⟩ := len5 h2
  exact ⟨a, b, c, d, e, f, rfl⟩
theorem len7 {α : Type} {l : List α} (h : l.length = 7) : ∃ a b c d e f g, l = [a, b, c, d, e, f, g] := by
  obtain ⟨a, r, rfl, h2⟩ := len_s h
  obtain ⟨b, c, d, e, f, g, rfl⟩ := len6 h2
  exact ⟨a, b, c, d, e, f, g, rfl⟩
def rLenTK (K : PySem.W.Frag) : List V → Hp → VK → Prop := fun xs H Q => ∃ (p : Addr) (vs : List V) (n : Nat), xs = [.ref p] ∧ SqT K H p vs ∧ vs.length = n ∧ Q (.int (n : Int)) H
theorem call_lenTK {X : Cx} {K : PySem.W.Frag} (hK : X.K = K := by rfl) : CallR X (.builtin "len") (rLenTK K) := by
  subst hK
  intro pins s σ H xs us Q I r h
  obtain ⟨p, vs, n, rfl, hs, hn, q⟩ := h
  exact call_len_seq pins s σ H _ us Q I r ⟨p, _, rfl, Or.inr hs, by rw [hn]; exact q⟩
theorem exm_mk {K : PySem.W.Frag} {S C : Addr} (h1 : PySem.W.subIn K (.ref C) (.type "BaseException") = some true) (h2 : PySem.W.isClsIn K C = true) (h3 : PySem.W.typeIn K (.ref C) = some (.type "type")) (h4 : PySem.W.subIn K (.ref S) (.ref C) = some true) :
    PySem.W.exmOne K (.ref S) (.ref C) = some true := by
  unfold PySem.W.isClsIn at h2
  unfold PySem.W.exmOne
  unfold PySem.W.kitCls
  simp only [h1, h2, h3, h4, beq_self_eq_true, Bool.and_self, if_true]
theorem kit_mk {K : PySem.W.Frag} {S C : Addr} (h2 : PySem.W.isClsIn K C = true) (h3 : PySem.W.typeIn K (.ref C) = some (.type "type")) (h4 : PySem.W.subIn K (.ref S) (.ref C) = some true) :
    PySem.W.kitOne K (.ref S) (.ref C) = some true := by
  unfold PySem.W.isClsIn at h2
  unfold PySem.W.kitOne
  split
  · rfl
  · unfold PySem.W.kitCls
    simp only [h2, h3, h4, beq_self_eq_true, Bool.and_self, if_true]
/-- isinstance(e, C) of the exception in hand -/
def rIsX (K : PySem.W.Frag) (a : Addr) (cls : Value) (d : Option Addr) : List V → Hp → VK → Prop := fun xs H Q => ∃ (D C : Addr) (b : Bool), cls = .ref D ∧ d = none ∧ ExcC K D ∧ xs = [.ref a, .ref C] ∧ PySem.W.kitOne K (.ref D) (.ref C) = some b ∧ Q (.bl b) H
theorem call_isX {X : Cx} {K : PySem.W.Frag} {a : Addr} {cls : Value} {d : Option Addr} {oe : Obj} {pn : List (Addr × Obj)} (hz : Zc cls d oe) (hf : ∃ vs, oe.data = .fields vs) (hK : X.K = K := by rfl) : CallR (X.suite a ((a, oe) :: pn)) (.builtin "isinstance") (rIsX K a cls d) := by
  subst hK
  intro pins s σ H xs us Q I r h
  obtain ⟨D, C, b, rfl, rfl, c, rfl, e, q⟩ := h
  exact call_isE c hz hf pins s σ H _ us Q I r ⟨_, _, b, rfl, fun u z => z, e, q⟩
/-! ### unpacking a list -/
section
variable {X : Cx} {K : PySem.W.Frag} {pos : Pos}
theorem pg_seqK {es : List Expr} {k : Nat} {t : TGs} {n : Nat} (h : PGs X es t) (hc : X.calm = true := by rfl) (hK : X.K = K := by rfl)
    (hn : (assignEach es X.env).length = n := by rfl) (hst : (assignEach es X.env).findIdx? (·.1) = none := by rfl) : PG X (.Tuple es k pos) (gLst K n t) := hK ▸ pg_lst hc h hn hst
end
theorem SqL.cast {K : PySem.W.Frag} {H : Hp} {a : Addr} {xs ys : List V} (h : SqL K H a xs) (e : xs = ys) : SqL K H a ys := e ▸ h
section
variable {α : Type} [Inhabited α] {f : α → V}
theorem unp2 {xs : List α} (h : xs.length = 2) : xs.map f = [f (itD xs 0), f (itD xs 1)] := by
  obtain ⟨a, b, rfl⟩ := len2 h
  rfl
theorem unp3 {xs : List α} (h : xs.length = 3) : xs.map f = [f (itD xs 0), f (itD xs 1), f (itD xs 2)] := by
  obtain ⟨a, b, c, rfl⟩ := len3 h
  rfl
theorem unp4 {xs : List α} (h : xs.length = 4) : xs.map f = [f (itD xs 0), f (itD xs 1), f (itD xs 2), f (itD xs 3)] := by
  obtain ⟨a, b, c, d, rfl⟩ := len4 h
  rfl
theorem unp6 {xs : List α} (h : xs.length = 6) : xs.map f = [f (itD xs 0), f (itD xs 1), f (itD xs 2), f (itD xs 3), f (itD xs 4), f (itD xs 5)] := by
  obtain ⟨a, b, c, d, e, g, rfl⟩ := len6 h
  rfl
theorem unp8 {xs : List α} (h : xs.length = 8) : xs.map f = [f (itD xs 0), f (itD xs 1), f (itD xs 2), f (itD xs 3), f (itD xs 4), f (itD xs 5), f (itD xs 6), f (itD xs 7)] := by
  obtain ⟨a, r, rfl, h2⟩ := len_s h
  obtain ⟨b, c, d, e, g, i, j, rfl⟩ := len7 h2
  rfl
end
/-! ### classes -/
section
variable {P : Program} {w : World} {K : PySem.W.Frag} {mg : Str → Option Value} {base : Heap}
structure MethX (K : PySem.W.Frag) (C : Addr) (q m : Str) (st : Stmt) (ps : List Str) (pats : List Pat) : Prop where
  ex : ∃ (f : Addr) (fd : FuncData) (dvs : List V) (kws : List (Str × V)), FunD K m q (defArgs st) (defBody st) (defScope st) dvs kws f fd ∧ Meth K C m f ∧ ∀ p ∈ pats, Bnd1 K fd ps p
structure InitX (K : PySem.W.Frag) (mg : Str → Option Value) (C : Addr) (cn q : Str) (st : Stmt) (ps : List Str) (pats : List Pat) : Prop where
  ex : ∃ (f : Addr) (fd : FuncData) (dvs : List V) (kws : List (Str × V)), FunD K "__init__" q (defArgs st) (defBody st) (defScope st) dvs kws f fd ∧ Mk K C f ∧ mg cn = some (.ref C) ∧ ∀ p ∈ pats, Bnd1 K fd ps p
structure PropX (K : PySem.W.Frag) (C : Addr) (q m : Str) (st : Stmt) (ps : List Str) (pats : List Pat) : Prop where
  ex : ∃ (r f : Addr) (fd : FuncData) (dvs : List V) (kws : List (Str × V)), FunD K m q (defArgs st) (defBody st) (defScope st) dvs kws f fd ∧ PropOf K C m r f ∧ Binds K fd ps []
structure MetX (P : Program) (w : World) (K : PySem.W.Frag) (mg : Str → Option Value) (base : Heap) (k : Nat) (C : Addr) (m : Str) (sp : Sp) (pats : List Pat) : Prop where
  ex : ∃ (f : Addr) (fd : FuncData) (ps : List Str), Cls K C ∧ Meth K C m f ∧ FnG P w K mg base (L2.CX P w) k f fd ps sp ∧ ∀ p ∈ pats, Bnd1 K fd ps p
structure PropY (P : Program) (w : World) (K : PySem.W.Frag) (mg : Str → Option Value) (base : Heap) (k : Nat) (C : Addr) (m : Str) (sp : Sp) (pats : List Pat) : Prop where
  ex : ∃ (q f : Addr) (fd : FuncData) (ps : List Str), Cls K C ∧ PropOf K C m q f ∧ FnG P w K mg base (L2.CX P w) k f fd ps sp ∧ Binds K fd ps []
structure MakX (P : Program) (w : World) (K : PySem.W.Frag) (mg : Str → Option Value) (base : Heap) (k : Nat) (cn : Str) (C : Addr) (sp : Sp) (pats : List Pat) : Prop where
  ex : ∃ (f : Addr) (fd : FuncData) (ps : List Str), Mk K C f ∧ FnG P w K mg base (L2.CX P w) k f fd ps sp ∧ mg cn = some (.ref C) ∧ ∀ p ∈ pats, Bnd1 K fd ps p
theorem MethX.ok {C : Addr} {q m : Str} {st : Stmt} {N ps : List Str} {pats : List Pat} {k : Nat} {sp : Sp} (D : MethX K C q m st ps pats) (c : Cls K C) (S : FnScope N ps (defScope st)) (len : ∀ vs H Q E, sp vs H Q E → vs.length = ps.length)
    (hbody : BodyX P w K mg base q st N k sp) : MetX P w K mg base (k + 1) C m sp pats := by
  obtain ⟨f, fd, dvs, kws, F, me, b⟩ := D.ex
  exact ⟨f, fd, ps, c, me, FnG.body F S len (fun cdv A outer s H vs Q E hr h => hbody f cdv A outer s H vs Q E hr h), b⟩
theorem PropX.ok {C : Addr} {q m : Str} {st : Stmt} {N ps : List Str} {pats : List Pat} {k : Nat} {sp : Sp} (D : PropX K C q m st ps pats) (c : Cls K C) (S : FnScope N ps (defScope st)) (len : ∀ vs H Q E, sp vs H Q E → vs.length = ps.length)
    (hbody : BodyX P w K mg base q st N k sp) : PropY P w K mg base (k + 1) C m sp pats := by
  obtain ⟨r, f, fd, dvs, kws, F, me, b⟩ := D.ex
  exact ⟨r, f, fd, ps, c, me, FnG.body F S len (fun cdv A outer s H vs Q E hr h => hbody f cdv A outer s H vs Q E hr h), b⟩
theorem InitX.ok {C : Addr} {cn q : Str} {st : Stmt} {N ps : List Str} {pats : List Pat} {k : Nat} {sp : Sp} (D : InitX K mg C cn q st ps pats) (S : FnScope N ps (defScope st)) (len : ∀ vs H Q E, sp vs H Q E → vs.length = ps.length)
    (hbody : BodyX P w K mg base q st N k sp) : MakX P w K mg base (k + 1) cn C sp pats := by
  obtain ⟨f, fd, dvs, kws, F, me, hm, b⟩ := D.ex
  exact ⟨f, fd, ps, me, FnG.body F S len (fun cdv A outer s H vs Q E hr h => hbody f cdv A outer s H vs Q E hr h), hm, b⟩
end
theorem cW_callN {α β : Type} {m : Rx β} {f : β → Rx α} {K : α → Prop} {E : Nat → Prop} {K2 : β → Prop} {E2 : Nat → Prop} (h : cW ((noEr m).bind f) K E) (ho : ∀ v, cW (f v) K E → K2 v) (_ : True) : cW m K2 E2 := by
  cases m with
  | ok a => exact cW_mk (ho a h)
  | er e => exact cW_bad (α := α) h
  | bad => exact cW_bad (α := α) h
section
variable {X : Cx} {k j n : Nat} {f C : Addr} {fd : FuncData} {ps ks : List Str} {g : List V → List V → List V} {sp : Sp} {x m : Str} {pos p apos : Pos} {e o : Expr} {es : List Expr} {kws : List Keyword} {ta : TE} {t tk : TA} {W : WX}
theorem run_mkX {pins : List (Addr × Obj)} {σ : L2.St} {H : Hp} {s : Shared} {Q : VK} {us ws : List Value} {vs zs : List V} (M : Mk X.K C f) (F : FnG X.prog X.w X.K X.mg X.base (L2.CX X.prog X.w) k f fd ps sp) (hr : RoomG (k + 1) X.A) (hb : Bnd X.K fd ps n ks g) (tkW : Takes X W)
    (I : Inv X pins σ H s) (r : Vals vs us) (rz : Vals zs ws) (l1 : vs.length + 1 = n) (l2 : zs.length = ks.length)
    (h : ∀ x dx, H x = none → H dx = none → dx ≠ x → sp (g (.ref x :: vs) zs) (upd (upd H dx (.own x)) x (.ins C dx [])) (fun v H2 => v = .non ∧ Q (.ref x) H2) (WE W σ)) :
    wpAny (model X.prog X.w) X.A (call (.ref C) us (ks.zip ws)) (EP X pins σ Q) X.xe s := by
  have hq := h (s.heap.objs.size + 1) s.heap.objs.size (I.hok.fresh (Nat.le_succ _)) (I.hok.fresh (Nat.le_refl _)) (Nat.ne_of_lt (Nat.lt_succ_self _))
  have I2 := Inv.made (C := C) I
  have r1 : Vals (V.ref (s.heap.objs.size + 1) :: vs) (Value.ref (s.heap.objs.size + 1) :: us) := .cons rfl r
  obtain ⟨vv, b, r2⟩ := hb.to _ (Value.ref (s.heap.objs.size + 1) :: us) ws (V.ref (s.heap.objs.size + 1) :: vs) zs I2.kIn (by rw [List.length_cons, l1]) l2 r1 rz
  refine wpAny_call (make_map (f := f) I.kIn M.makes M.init (beq_iff_eq.mp M.fn) (codeAny_mono (F.run _ X.stack _ _ ⟨Value.ref (s.heap.objs.size + 1) :: us, ks.zip ws⟩ vv _ _ (WE W σ) (hr.made C us (ks.zip ws))
    (I2.env0.make C us (ks.zip ws)) b r2 hq) fun r s' hq' => ?_))
  cases r with
  | error e => exact passAt tkW σ pins _ _ e s' I2 hq'
  | ok fl =>
    cases fl with
    | ret u =>
      obtain ⟨v, H', I3, rv, ev, q3⟩ := I2.after hq'
      subst ev
      exact ⟨rv, ⟨V.ref (s.heap.objs.size + 1), H', I3, rfl, q3⟩⟩
    | next => exact False.elim hq'
    | brk => exact False.elim hq'
    | cont => exact False.elim hq'
/-- C(e, .., k = v, ..) -/
def tMakeX (C : Addr) (n m : Nat) (sp : Sp) (g : List V → List V → List V) (W : WX) (t tk : TA) : TE := fun σ H Q => t σ H fun vs H1 => tk σ H1 fun zs H2 => vs.length + 1 = n ∧ zs.length = m ∧ ∀ x dx, H2 x = none → H2 dx = none → dx ≠ x →
  sp (g (.ref x :: vs) zs) (upd (upd H2 dx (.own x)) x (.ins C dx [])) (fun v H3 => v = .non ∧ Q (.ref x) H3) (WE W σ)
theorem vx_makeX {pats : List Pat} (c : MakX X.prog X.w X.K X.mg X.base k x C sp pats) (pt : Pat) (hpt : pt ∈ pats) (hr : RoomG j X.A) (hk : k + 1 ≤ j) (tkW : Takes X W) (hg : Gl X x) (ha : PA X (e :: es) t) (hkw : PK X kws tk)
    (hall : (backToKw pos (keywordEach kws X.env)).all (·.1.isSome) = true := by rfl) (hks : (backToKw pos (keywordEach kws X.env)).filterMap (·.1) = pt.2.1 := by rfl) (hdb : (x == ("__debug__" : Str)) = false := by decide)
    (he : starEach (e :: es) X.env = (false, eval e X.env) :: starEach es X.env := by rfl) (hpl : ((backTo pos (starEach (e :: es) X.env)).any (·.1) || (backToKw pos (keywordEach kws X.env)).any (·.1.isNone)) = false := by rfl) :
    PE X (.Call (.Name x p) (e :: es) kws pos) (tMakeX C pt.1 pt.2.1.length sp pt.2.2 W t tk) := by
  obtain ⟨f, fd, ps, M, F, hm, b⟩ := c.ex
  refine ⟨fun pins s σ H Q I h => ?_⟩
  refine wpAny_Call_Name_kw (ld_glob I hg hm ?_ hdb)
  refine PySem.W.callWith_KW (h₀ := X.base) I.ok.mod.kin M.kp hall (thn (ha.run pos pins s σ H _ I h) fun us s1 ⟨vs, H1, I1, r, q⟩ => ?_) hpl he
  refine thn (hkw.run pos pins s1 σ H1 _ I1 q) fun ws s2 ⟨zs, H2, I2, rz, l1, l2, q2⟩ => ⟨I2.kIn, ?_⟩
  rw [hks]
  exact run_mkX M F (hr.low hk) (b pt hpt) tkW I2 r rz l1 l2 q2
theorem vx_makeX0 {pats : List Pat} (c : MakX X.prog X.w X.K X.mg X.base k x C sp pats) (pt : Pat) (hpt : pt ∈ pats) (hr : RoomG j X.A) (hk : k + 1 ≤ j) (tkW : Takes X W) (hg : Gl X x) (hks : pt.2.1 = [] := by rfl)
    (hdb : (x == ("__debug__" : Str)) = false := by decide) : PE X (.Call (.Name x p) [] [] pos) (tMakeX C pt.1 pt.2.1.length sp pt.2.2 W tNil tNil) := by
  obtain ⟨f, fd, ps, M, F, hm, b⟩ := c.ex
  refine ⟨fun pins s σ H Q I h => ?_⟩
  refine wpAny_Call_Name_kw (ld_glob I hg hm ?_ hdb)
  obtain ⟨l1, l2, q2⟩ := h
  have hz := run_mkX (us := []) (ws := []) M F (hr.low hk) (b pt hpt) tkW I .nil .nil l1 l2 q2
  rw [hks] at hz
  exact PySem.W.callWith_K0 I.kIn M.kp hz
/-- o.m(e, .., k = v, ..) -/
def tMethX (C : Addr) (m : Str) (n mm : Nat) (sp : Sp) (g : List V → List V → List V) (W : WX) (ta : TE) (t tk : TA) : TE := fun σ H Q => ta σ H fun x H1 => ∃ a dx fs, x = .ref a ∧ H1 a = some (.ins C dx fs) ∧ fs.lookup m = none ∧
  t σ H1 fun vs H2 => tk σ H2 fun zs H3 => (x :: vs).length = n ∧ zs.length = mm ∧ sp (g (x :: vs) zs) H3 Q (WE W σ)
theorem vx_methX {pats : List Pat} {pl : Sem Bool} (c : MetX X.prog X.w X.K X.mg X.base k C m sp pats) (pt : Pat) (hpt : pt ∈ pats) (hr : RoomG j X.A) (hk : k ≤ j) (tkW : Takes X W) (he : PE X o ta) (ha : PA X (e :: es) t) (hkw : PK X kws tk)
    (hall : (backToKw pos (keywordEach kws X.env)).all (·.1.isSome) = true := by rfl) (hks : (backToKw pos (keywordEach kws X.env)).filterMap (·.1) = pt.2.1 := by rfl)
    (hst : starEach (e :: es) X.env = (false, eval e X.env) :: starEach es X.env := by rfl) (hpl : ((backTo pos (starEach (e :: es) X.env)).any (·.1) || (backToKw pos (keywordEach kws X.env)).any (·.1.isNone)) = false := by rfl)
    (ht : eval (.Call (.Attribute o m apos) (e :: es) kws pos) X.env = (do
      let ov ← eval o X.env
      standAt apos.atName
      let (f, first) ← holding [ov] (getMethod ov m pl)
      callWith pos f first (backTo pos (starEach (e :: es) X.env)) (backToKw pos (keywordEach kws X.env))) := by rfl) :
    PE X (.Call (.Attribute o m apos) (e :: es) kws pos) (tMethX C m pt.1 pt.2.1.length sp pt.2.2 W ta t tk) := by
  obtain ⟨f, fd, ps, hc, hm, F, b⟩ := c.ex
  refine ⟨fun pins s σ H Q I h => ?_⟩
  refine PySem.W.methodCall_KW (pl := pl) (thn (he.run pins s σ H _ I h) fun u s1 ⟨x, H1, I1, rx, a, dx, fs, ex, ea, l, q⟩ => ?_) ht
  subst ex
  obtain rfl : u = Value.ref a := rx
  refine getmeth_ok I1 ea hc hm l ?_
  refine PySem.W.callWith_KW (first := [.ref a]) (h₀ := X.base) I.ok.mod.kin hm.kp hall (thn (ha.run pos pins s1 σ H1 _ I1 q) fun us s2 ⟨vs, H2, I2, r, q2⟩ => ?_) hpl hst
  refine thn (hkw.run pos pins s2 σ H2 _ I2 q2) fun ws s3 ⟨zs, H3, I3, rz, l1, l2, q3⟩ => ⟨I3.kIn, ?_⟩
  rw [hks]
  exact run_X (us := .ref a :: us) (vs := .ref a :: vs) F (hr.low hk) (b pt hpt) tkW I3 (.cons rfl r) rz l1 l2 q3
theorem vx_methX0 {pats : List Pat} {pl : Sem Bool} (c : MetX X.prog X.w X.K X.mg X.base k C m sp pats) (pt : Pat) (hpt : pt ∈ pats) (hr : RoomG j X.A) (hk : k ≤ j) (tkW : Takes X W) (he : PE X o ta) (hks : pt.2.1 = [] := by rfl)
    (ht : eval (.Call (.Attribute o m apos) [] [] pos) X.env = (do
      let ov ← eval o X.env
      standAt apos.atName
      let (f, first) ← holding [ov] (getMethod ov m pl)
      callWith pos f first (backTo pos (starEach [] X.env)) (backToKw pos (keywordEach [] X.env))) := by rfl) :
    PE X (.Call (.Attribute o m apos) [] [] pos) (tMethX C m pt.1 pt.2.1.length sp pt.2.2 W ta tNil tNil) := by
  obtain ⟨f, fd, ps, hc, hm, F, b⟩ := c.ex
  refine ⟨fun pins s σ H Q I h => ?_⟩
  refine PySem.W.methodCall_KW (pl := pl) (thn (he.run pins s σ H _ I h) fun u s1 ⟨x, H1, I1, rx, a, dx, fs, ex, ea, l, q⟩ => ?_) ht
  subst ex
  obtain rfl : u = Value.ref a := rx
  refine getmeth_ok I1 ea hc hm l ?_
  obtain ⟨l1, l2, q3⟩ := q
  have hz := run_X (us := [.ref a]) (vs := [.ref a]) (ws := []) F (hr.low hk) (b pt hpt) tkW I1 (.cons rfl .nil) .nil l1 l2 q3
  rw [hks] at hz
  exact PySem.W.callWith_K0 (first := [.ref a]) I1.kIn hm.kp hz
theorem vx_propX {pats : List Pat} (c : PropY X.prog X.w X.K X.mg X.base k C m sp pats) (hr : RoomG j X.A) (hk : k + 1 ≤ j) (he : PE X o ta) (hab : attributeBase o m X.env (eval o X.env) = eval o X.env := by rfl) : PE X (.Attribute o m pos) (tProp C sp [] E0 ta) := by
  obtain ⟨q, f, fd, ps, cls, prop, F, bind⟩ := c.ex
  constructor
  intro pins s σ H Q I h
  refine attr_of hab (thn (he.run pins s σ H _ I h) ?_)
  rintro u s1 ⟨x, H1, I1, rx, a, dx, fs, rfl, ea, prom⟩
  cases rx
  obtain ⟨mA, O, _⟩ := ins_get I1.hok ea
  obtain ⟨od, J, _⟩ := O.look
  obtain ⟨rest, rec_⟩ := prop.rec_
  have short : [Value.ref a].length = ps.length := (F.len _ _ _ _ prom).symm ▸ rfl
  have isCls : (PySem.W.clsIn X.K C).isSome = true := by
    obtain ⟨cd, e, _⟩ := PySem.W.any_some cls.hd
    rw [e]
    rfl
  refine PySem.W.get_bind I1.kIn J (PySem.W.plainGet_of (cls.get m)).1 (PySem.W.findObj_data isCls prop.at_ prop.get prop.tak) (PySem.W.plainGet_of (cls.get m)).2 (wpAny_call (PySem.W.prop_get (s := { s1 with toks := s1.toks + 1 }) I1.kIn rec_ ?_))
  have I2 := I1.tok (s1.toks + 1)
  refine codeAny_mono (F.run X.A.in1 X.stack _ H1 ⟨[.ref a], []⟩ [.ref a] [.ref a] Q E0 (hr.low hk).one I2.env0.in1 (by simpa using bind _ [.ref a] I2.kIn (by simpa using short)) (.cons rfl .nil) prom) ?_
  intro r s2 out
  cases r with
  | error er => exact (passL (X := X.nox) pins σ H1 _ er s2 (I2.wish _) out).elim
  | ok flow =>
    cases flow with
    | ret v =>
      obtain ⟨y, H2, I3, ry, qy⟩ := I2.after out
      have given := PySem.W.handedOut_of (handed_of ry)
      show wpAny _ _ (handedOut v) _ _ s2
      rw [given]
      exact wpAny_pure ⟨y, H2, I3, ry, qy⟩
    | next => exact out.elim
    | brk => exact out.elim
    | cont => exact out.elim
end
theorem Sep.news {M : List Addr} {H0 G0 G H H' : Hp} {O : List Addr} (S : Sep M H0 G0 G H O) (e : Same H H') (L : List Addr) (hL : ∀ a ∈ L, H a = none ∧ H' a ≠ none ∧ H0 a = none) : Sep M H0 G0 G H' (L ++ O) := by
  have S2 := S.same e
  refine ⟨S2.base, S2.pm, S2.sG, S2.g0, S2.gn, fun a ha => ?_⟩
  rcases List.mem_append.mp ha with h | h
  · obtain ⟨h1, h2, h3⟩ := hL a h
    exact ⟨S.gfree h1, h2, .inr h3⟩
  · exact S2.ow a h
theorem vv_chain {r r' : R2} {ta tb tc : TE} {σ : L2.St} {H : Hp} {x y z : V} {a b : Bool} (ha : Val ta σ H x) (hb : Val tb σ H y) (hc : Val tc σ H z) (h1 : ∀ Q : VK, Q (.bl a) H → r x y H Q) (h2 : ∀ Q : VK, Q (.bl b) H → r' y z H Q) :
    Val (tChain r r' ta tb tc) σ H (.bl (a && b)) := fun Q q => ha _ (hb _ (h1 _ ⟨a, rfl, by
  cases a with
  | true =>
    rw [if_pos rfl]
    exact hc _ (h2 _ q)
  | false =>
    rw [if_neg Bool.false_ne_true]
    exact q⟩))
/-! ### constants that are tuples, lists backwards, zip -/
theorem inV_ints (x : Int) : ∀ xs : List Int, inV (V.int x) (xs.map V.int) = decide (x ∈ xs)
  | [] => by simp [inV]
  | y :: r => by
    have h := inV_ints x r
    unfold inV at h ⊢
    rw [List.map_cons, List.any_cons, h]
    by_cases c : x = y
    · subst c
      simp [eqV]
    · simp [eqV, c, Ne.symm c]
theorem flat_ints : ∀ xs : List Int, (xs.map V.int).all flatV = true
  | [] => rfl
  | _ :: r => flat_ints r
def rInI (K : PySem.W.Frag) : R2 := fun x y H Q => ∃ (i : Int) (p : Addr) (xs : List Int), x = .int i ∧ y = .ref p ∧ (SqL K H p (xs.map V.int) ∨ SqT K H p (xs.map V.int)) ∧ Q (.bl (decide (i ∈ xs))) H
def rNotInI (K : PySem.W.Frag) : R2 := fun x y H Q => ∃ (i : Int) (p : Addr) (xs : List Int), x = .int i ∧ y = .ref p ∧ (SqL K H p (xs.map V.int) ∨ SqT K H p (xs.map V.int)) ∧ Q (.bl (!decide (i ∈ xs))) H
theorem op_inI {X : Cx} {K : PySem.W.Frag} (hK : X.K = K := by rfl) : OpR X (compareOp .In) (rInI K) := by
  subst hK
  intro pins s σ H x y v u Q I rx ry h
  obtain ⟨i, p, xs, rfl, rfl, hs, q⟩ := h
  refine op_in_seq pins s σ H _ _ v u Q I rx ry ⟨p, _, rfl, hs, rfl, flat_ints xs, ?_⟩
  rw [if_neg Bool.false_ne_true, inV_ints]
  exact q
theorem op_notInI {X : Cx} {K : PySem.W.Frag} (hK : X.K = K := by rfl) : OpR X (compareOp .NotIn) (rNotInI K) := by
  subst hK
  intro pins s σ H x y v u Q I rx ry h
  obtain ⟨i, p, xs, rfl, rfl, hs, q⟩ := h
  refine op_notIn_seq pins s σ H _ _ v u Q I rx ry ⟨p, _, rfl, hs, rfl, flat_ints xs, ?_⟩
  rw [if_pos rfl, inV_ints]
  exact q
theorem pe_revLK {X : Cx} {K : PySem.W.Frag} {e : Expr} {te : TE} {k : Nat} {p1 p2 p3 pos : Pos} (he : PE X e te) (hK : X.K = K := by rfl) : PE X (.Subscript e (.Slice none none (some (.UnaryOp .USub (.Constant (.int 1) k p1) p2)) p3) pos) (tRevL K te) := hK ▸ pe_revL he
theorem rev_map {α : Type} {f : α → V} {xs : List α} {H : Hp} {p : Addr} (h : H p = some (.lst (xs.map f).reverse)) : H p = some (.lst (xs.reverse.map f)) := by
  rw [List.map_reverse]
  exact h
theorem RpAll.rev {G : Hp} : ∀ {vs : List V} {ds : List PyData}, RpAll G vs ds → RpAll G vs.reverse ds.reverse
  | _, _, .nil => .nil
  | _, _, .cons h t => by
    rw [List.reverse_cons, List.reverse_cons]
    exact (RpAll.rev t).append (.one h)
theorem rev_all {α : Type} {f : α → PyData} {xs : List α} {G : Hp} {vs : List V} (a : RpAll G vs (xs.map f)) : RpAll G vs.reverse (xs.reverse.map f) := by
  rw [List.map_reverse]
  exact a.rev
theorem pi_zipK {X : Cx} {K : PySem.W.Frag} {e e2 : Expr} {ta : TA} {p pos tpos : Pos} {elts : List Expr} {kk : Nat} (hg : Gl X "zip") (hm : X.mg "zip" = none) (ha : PA X [e, e2] ta) (hK : X.K = K := by rfl)
    (hs : starEach [e, e2] X.env = (false, eval e X.env) :: starEach [e2] X.env := by rfl) (hpl : (backTo pos (starEach [e2] X.env)).any (·.1) = false := by rfl) :
    PI X (.Tuple elts kk tpos) (.Call (.Name "zip" p) [e, e2] [] pos) (RZ.iZipA K ta) := hK ▸ RZ.pi_zipA hg hm ha hs hpl
/-- a comprehension over zip of two lists of one length -/
theorem lc_zipL {K : PySem.W.Frag} {a b : Addr} {xs ys : List V} {g : TG} {tt : TT} {te : TE} {vs : List Nat} {σ : L2.St} {H1 : Hp} {D : Addr} {Qd : Hp → Prop} (hl : xs.length = ys.length) (Pv : Nat → Hp → Prop) (h0 : Pv 0 (upd H1 D (.lst []))) (hq : ∀ i H, i ≤ xs.length → Pv i H → SqL K H a xs ∧ SqL K H b ys)
    (hs : ∀ (i : Nat) (x y : V) (T : Addr) (H : Hp), xs[i]? = some x → ys[i]? = some y → H T = none → Pv i H → g (.ref T) (wipe σ vs) (upd H T (.tup [x, y])) fun σ2 H2 => wipe σ2 vs = wipe σ vs ∧ tt σ2 H2 fun b H3 =>
      if b = true then te σ2 H3 fun y H4 => ∃ acc, H4 D = some (.lst acc) ∧ acc.length < sizeLine ∧ Pv (i + 1) (upd H4 D (.lst (acc ++ [y]))) else Pv (i + 1) H3) (hd : ∀ H, Pv xs.length H → Qd H) :
    ∃ W : Nat → Nat → Hp → Prop, (∃ m, W 0 m (upd H1 D (.lst []))) ∧ ∀ i m H, W i m H →
      ((Itz K a b).stop i H ∧ Qd H) ∨ ((Itz K a b).go i H ∧ ∃ Nx : Hp → Prop, (∀ H', Nx H' → ∃ m', m' < m ∧ W (i + 1) m' H') ∧ ∀ x H', (Itz K a b).yld i H x H' → g x (wipe σ vs) H' fun σ2 H2 => wipe σ2 vs = wipe σ vs ∧ tt σ2 H2 fun b H3 =>
        if b = true then te σ2 H3 fun y H4 => ∃ acc, H4 D = some (.lst acc) ∧ acc.length < sizeLine ∧ Nx (upd H4 D (.lst (acc ++ [y]))) else Nx H3) := by
  refine ⟨fun i m H => m = xs.length - i ∧ i ≤ xs.length ∧ Pv i H, ⟨xs.length, by simp, Nat.zero_le _, h0⟩, ?_⟩
  rintro i m H ⟨rfl, hi, p⟩
  obtain ⟨qx, qy⟩ := hq i H hi p
  by_cases hlt : i < xs.length
  · have hlt2 : i < ys.length := by omega
    refine .inr ⟨⟨xs, ys, xs[i], ys[i], qx, qy, List.getElem?_eq_getElem hlt, List.getElem?_eq_getElem hlt2⟩, Pv (i + 1), fun H' p' => ⟨xs.length - (i + 1), by omega, rfl, hlt, p'⟩, fun v H' y => ?_⟩
    obtain ⟨T, x', y', rfl, hT, rfl, f1, f2⟩ := y
    exact hs i x' y' T H (f1 xs qx) (f2 ys qy) hT p
  · have e : i = xs.length := by omega
    subst e
    exact .inl ⟨⟨xs, ys, qx, qy, Or.inl (Nat.le_refl _)⟩, hd H p⟩
theorem zip_get {α β : Type} {xs : List α} {ys : List β} {i : Nat} {x : α} {y : β} (h1 : xs[i]? = some x) (h2 : ys[i]? = some y) : (xs.zip ys)[i]? = some (x, y) := by
  rw [List.getElem?_zip_eq_some]
  exact ⟨h1, h2⟩
theorem zip_len {α β : Type} {xs : List α} {ys : List β} {n : Nat} (h : xs.length = ys.length) (e : n = xs.length) : n = (xs.zip ys).length := by
  rw [List.length_zip, ← h, Nat.min_self]
  exact e
theorem zlen {α β : Type} {vs ws : List V} {xs : List α} {ys : List β} (a : vs.length = xs.length) (b : ws.length = ys.length) (h : xs.length = ys.length) : vs.length = ws.length := by rw [a, b, h]
section
variable {t : TT} {ta tb : TE} {σ : L2.St} {H : Hp}
theorem vv_ifP {p : Prop} [Decidable p] {a b : Int} (ht : Ans t σ H (decide p)) (hx : p → Val ta σ H (.int a)) (hy : ¬ p → Val tb σ H (.int b)) : Val (tIf t ta tb) σ H (.int (if p then a else b)) := by
  by_cases h : p
  · have := vv_if (p := p) (a := a) (b := a) ht (hx h) (tb := ta) (hx h)
    intro Q q
    refine ht _ ?_
    rw [decide_eq_true h, if_pos rfl]
    rw [if_pos h] at q
    exact hx h _ q
  · intro Q q
    refine ht _ ?_
    rw [decide_eq_false h, if_neg Bool.false_ne_true]
    rw [if_neg h] at q
    exact hy h _ q
theorem vv_ifQ {c : Bool} {a b : Int} (ht : Ans t σ H c) (hx : c = true → Val ta σ H (.int a)) (hy : c = false → Val tb σ H (.int b)) : Val (tIf t ta tb) σ H (.int (if c = true then a else b)) := by
  intro Q q
  refine ht _ ?_
  cases c with
  | true =>
    rw [if_pos rfl]
    rw [if_pos rfl] at q
    exact hx rfl _ q
  | false =>
    rw [if_neg Bool.false_ne_true]
    rw [if_neg Bool.false_ne_true] at q
    exact hy rfl _ q
end
theorem kit_mk0 {K : PySem.W.Frag} {S C : Addr} (h1 : (Value.ref S == Value.ref C) = false) (h2 : PySem.W.isClsIn K C = true) (h3 : PySem.W.typeIn K (.ref C) = some (.type "type")) (h4 : PySem.W.subIn K (.ref S) (.ref C) = some false) :
    PySem.W.kitOne K (.ref S) (.ref C) = some false := by
  unfold PySem.W.isClsIn at h2
  unfold PySem.W.kitOne
  rw [if_neg (by rw [h1]; exact Bool.false_ne_true)]
  unfold PySem.W.kitCls
  simp only [h2, h3, h4, beq_self_eq_true, Bool.and_self, if_true]
theorem vv_call2 {ta tb : TE} {σ : L2.St} {H : Hp} {x y z : V} {r : List V → Hp → VK → Prop} (ha : Val ta σ H x) (hb : Val tb σ H y) (hr : ∀ Q : VK, Q z H → r [x, y] H Q) : Val (tCB r (tCons ta (tCons tb tNil))) σ H z := fun Q q => ha _ (hb _ (hr Q q))
/-! ### lists of data that the caller owns; values that are a truth value or a number -/
theorem Sep.stepnew {M : List Addr} {H0 G0 G H H' : Hp} {O : List Addr} {p : Addr} {o : HO} (S : Sep M H0 G0 G H O) {G' : Hp} (e : Same H H') (eG : Same G G') (sG : Same G' H') (hn : ∀ b, H b ≠ none → G b = none → G' b = none) (_n : H p = none) (h : H' p = some o) (g : G' p = none) (hm : H0 p = none) : Sep M H0 G0 G' H' (p :: O) := by
  have S2 := S.step e eG sG hn
  refine ⟨S2.base, S2.pm, S2.sG, S2.g0, S2.gn, fun a ha => ?_⟩
  rcases List.mem_cons.mp ha with rfl | ha
  · exact ⟨g, (fun z => by rw [z] at h; cases h), .inr hm⟩
  · exact S2.ow a ha
inductive Bi where
  | b (x : Bool)
  | n (i : Int)
deriving DecidableEq
def biV : Bi → V
  | .b x => .bl x
  | .n i => .int i
def Bi.el {α : Type} (v : Bi) (f : Bool → α) (g : Int → α) : α :=
  match v with
  | .b x => f x
  | .n i => g i
theorem cW_elb {α : Type} {x : Bool} {f : Bool → Rx α} {g : Int → Rx α} {K : α → Prop} {E : Nat → Prop} (h : cW (Bi.el (.b x) f g) K E) : cW (f x) K E := h
theorem cW_eln {α : Type} {x : Int} {f : Bool → Rx α} {g : Int → Rx α} {K : α → Prop} {E : Nat → Prop} (h : cW (Bi.el (.n x) f g) K E) : cW (g x) K E := h
theorem rp_tup4 {α β γ δ : Type} {f : α → PyData} {g : β → PyData} {h : γ → PyData} {i : δ → PyData} {H : Hp} {v : V} {x : α × β × γ × δ} (r : Rp H v (encT4 f g h i x)) : ∃ a v1 v2 v3 v4, v = .ref a ∧ H a = some (.tup [v1, v2, v3, v4]) ∧ Rp H v1 (f x.1) ∧ Rp H v2 (g x.2.1) ∧ Rp H v3 (h x.2.2.1) ∧ Rp H v4 (i x.2.2.2) := by
  unfold encT4 at r
  cases r with
  | tup h1 h2 =>
    cases h2 with
    | cons a b =>
      cases b with
      | cons b c =>
        cases c with
        | cons c d =>
          cases d with
          | cons d e =>
            cases e
            exact ⟨_, _, _, _, _, rfl, h1, a, b, c, d⟩
theorem rp_mk4 {α β γ δ : Type} {f : α → PyData} {g : β → PyData} {h : γ → PyData} {i : δ → PyData} {H : Hp} {a : Addr} {v1 v2 v3 v4 : V} {x : α} {y : β} {z : γ} {w : δ} (h1 : H a = some (.tup [v1, v2, v3, v4])) (r1 : Rp H v1 (f x)) (r2 : Rp H v2 (g y)) (r3 : Rp H v3 (h z)) (r4 : Rp H v4 (i w)) : Rp H (.ref a) (encT4 f g h i (x, y, z, w)) := .tup h1 (.cons r1 (.cons r2 (.cons r3 (.cons r4 .nil))))
theorem Sep.b0M {M : List Addr} {H0 G0 G H : Hp} {O : List Addr} (S : Sep M H0 G0 G H O) (h : ∀ a ∈ M, H a = H0 a) : Same H0 H := fun b o e => by
  by_cases z : b ∈ M
  · rw [h b z]
    exact e
  · exact S.base b o e z
section
variable {X : Cx} {k j n : Nat} {f C : Addr} {fd : FuncData} {ps ks : List Str} {g : List V → List V → List V} {sp : Sp} {x m : Str} {pos p apos : Pos} {e o : Expr} {es : List Expr} {kws : List Keyword} {ta : TE} {t tk : TA} {W : WX}
/-- keywords alone -/
theorem vx_makeXK {pats : List Pat} (c : MakX X.prog X.w X.K X.mg X.base k x C sp pats) (pt : Pat) (hpt : pt ∈ pats) (hr : RoomG j X.A) (hk : k + 1 ≤ j) (tkW : Takes X W) (hg : Gl X x) (hkw : PK X kws tk)
    (hall : (backToKw pos (keywordEach kws X.env)).all (·.1.isSome) = true := by rfl) (hks : (backToKw pos (keywordEach kws X.env)).filterMap (·.1) = pt.2.1 := by rfl) (hdb : (x == ("__debug__" : Str)) = false := by decide)
    (hpl : ((backTo pos (starEach [] X.env)).any (·.1) || (backToKw pos (keywordEach kws X.env)).any (·.1.isNone)) = false := by rfl) :
    PE X (.Call (.Name x p) [] kws pos) (tMakeX C pt.1 pt.2.1.length sp pt.2.2 W tNil tk) := by
  obtain ⟨f, fd, ps, M, F, hm, b⟩ := c.ex
  refine ⟨fun pins s σ H Q I h => ?_⟩
  refine wpAny_Call_Name_kw (ld_glob I hg hm ?_ hdb)
  refine PySem.W.callWith_KW0 (h₀ := X.base) I.ok.mod.kin M.kp hall ?_ hpl
  refine thn (hkw.run pos pins s σ H _ I h) fun ws s2 ⟨zs, H2, I2, rz, l1, l2, q2⟩ => ⟨I2.kIn, ?_⟩
  rw [hks]
  exact run_mkX (us := []) (vs := []) M F (hr.low hk) (b pt hpt) tkW I2 .nil rz l1 l2 q2
theorem vx_callXK {pats : List Pat} (c : CalX X.prog X.w X.K X.mg X.base k x sp pats) (pt : Pat) (hpt : pt ∈ pats) (hr : RoomG j X.A) (hk : k ≤ j) (tkW : Takes X W) (hg : Gl X x) (hkw : PK X kws tk)
    (hall : (backToKw pos (keywordEach kws X.env)).all (·.1.isSome) = true := by rfl) (hks : (backToKw pos (keywordEach kws X.env)).filterMap (·.1) = pt.2.1 := by rfl) (hdb : (x == ("__debug__" : Str)) = false := by decide)
    (hpl : ((backTo pos (starEach [] X.env)).any (·.1) || (backToKw pos (keywordEach kws X.env)).any (·.1.isNone)) = false := by rfl) :
    PE X (.Call (.Name x p) [] kws pos) (tCallX pt.1 pt.2.1.length sp pt.2.2 W tNil tk) := by
  obtain ⟨f, fd, ps, F, hm, kp, b⟩ := c.ex
  refine ⟨fun pins s σ H Q I h => ?_⟩
  refine wpAny_Call_Name_kw (ld_glob I hg hm ?_ hdb)
  refine PySem.W.callWith_KW0 (h₀ := X.base) I.ok.mod.kin kp hall ?_ hpl
  refine thn (hkw.run pos pins s σ H _ I h) fun ws s2 ⟨zs, H2, I2, rz, l1, l2, q2⟩ => ⟨I2.kIn, ?_⟩
  rw [hks]
  exact run_X (us := []) (vs := []) F (hr.low hk) (b pt hpt) tkW I2 .nil rz l1 l2 q2
theorem vx_methXK {pats : List Pat} {pl : Sem Bool} (c : MetX X.prog X.w X.K X.mg X.base k C m sp pats) (pt : Pat) (hpt : pt ∈ pats) (hr : RoomG j X.A) (hk : k ≤ j) (tkW : Takes X W) (he : PE X o ta) (hkw : PK X kws tk)
    (hall : (backToKw pos (keywordEach kws X.env)).all (·.1.isSome) = true := by rfl) (hks : (backToKw pos (keywordEach kws X.env)).filterMap (·.1) = pt.2.1 := by rfl)
    (hpl : ((backTo pos (starEach [] X.env)).any (·.1) || (backToKw pos (keywordEach kws X.env)).any (·.1.isNone)) = false := by rfl)
    (ht : eval (.Call (.Attribute o m apos) [] kws pos) X.env = (do
      let ov ← eval o X.env
      standAt apos.atName
      let (f, first) ← holding [ov] (getMethod ov m pl)
      callWith pos f first (backTo pos (starEach [] X.env)) (backToKw pos (keywordEach kws X.env))) := by rfl) :
    PE X (.Call (.Attribute o m apos) [] kws pos) (tMethX C m pt.1 pt.2.1.length sp pt.2.2 W ta tNil tk) := by
  obtain ⟨f, fd, ps, hc, hm, F, b⟩ := c.ex
  refine ⟨fun pins s σ H Q I h => ?_⟩
  refine PySem.W.methodCall_KW (pl := pl) (thn (he.run pins s σ H _ I h) fun u s1 ⟨x, H1, I1, rx, a, dx, fs, ex, ea, l, q⟩ => ?_) ht
  subst ex
  obtain rfl : u = Value.ref a := rx
  refine getmeth_ok I1 ea hc hm l ?_
  refine PySem.W.callWith_KW0 (first := [.ref a]) (h₀ := X.base) I.ok.mod.kin hm.kp hall ?_ hpl
  refine thn (hkw.run pos pins s1 σ H1 _ I1 q) fun ws s3 ⟨zs, H3, I3, rz, l1, l2, q3⟩ => ⟨I3.kIn, ?_⟩
  rw [hks]
  exact run_X (us := [.ref a]) (vs := [.ref a]) F (hr.low hk) (b pt hpt) tkW I3 (.cons rfl .nil) rz l1 l2 q3
end
end Vx
/-! # lists within lists that are owned as a whole -/
namespace Vx
open PySem PySem.Spec PyProof.Rows L2
inductive Kd where
  | lst
  | tup
  | ins (C dx : Addr) (ns : List Str)
def Kd.ho : Kd → List V → HO
  | .lst, vs => .lst vs
  | .tup, vs => .tup vs
  | .ins C dx ns, vs => .ins C dx (ns.zip vs)
/-- what stands in the heap as a tree: values as they are, data that stay, nodes of its own -/
inductive Dt where
  | val (v : V)
  | frz (d : PyData)
  | nod (k : Kd) (xs : List Dt)
mutual
inductive Ow (G H : Hp) : List Addr → V → Dt → Prop
  | val (v : V) : Ow G H [] v (.val v)
  | frz {v : V} {d : PyData} : Rp G v d → Ow G H [] v (.frz d)
  | nod {a : Addr} {k : Kd} {vs : List V} {ds : List Dt} {L : List Addr} : H a = some (k.ho vs) → OwAll G H L vs ds → a ∉ L → Ow G H (a :: L) (.ref a) (.nod k ds)
inductive OwAll (G H : Hp) : List Addr → List V → List Dt → Prop
  | nil : OwAll G H [] [] []
  | cons {L1 L2 : List Addr} {v : V} {vs : List V} {d : Dt} {ds : List Dt} : Ow G H L1 v d → OwAll G H L2 vs ds → (∀ b ∈ L1, b ∉ L2) → OwAll G H (L1 ++ L2) (v :: vs) (d :: ds)
end
def Keeps (L : List Addr) (H H' : Hp) : Prop := ∀ b ∈ L, ∀ o, H b = some o → H' b = some o
mutual
theorem Ow.mono {G G' H H' : Hp} (e : Same G G') : ∀ {L : List Addr} {v : V} {d : Dt}, Keeps L H H' → Ow G H L v d → Ow G' H' L v d
  | _, _, _, _, .val v => .val v
  | _, _, _, _, .frz r => .frz (r.mono e)
  | _, _, _, k, .nod h r n => .nod (k _ List.mem_cons_self _ h) (OwAll.mono e (fun b hb => k b (List.mem_cons_of_mem _ hb)) r) n
theorem OwAll.mono {G G' H H' : Hp} (e : Same G G') : ∀ {L : List Addr} {vs : List V} {ds : List Dt}, Keeps L H H' → OwAll G H L vs ds → OwAll G' H' L vs ds
  | _, _, _, _, .nil => .nil
  | _, _, _, k, .cons a r d => .cons (Ow.mono e (fun b hb => k b (List.mem_append_left _ hb)) a) (OwAll.mono e (fun b hb => k b (List.mem_append_right _ hb)) r) d
end
mutual
theorem Ow.there {G H : Hp} : ∀ {L : List Addr} {v : V} {d : Dt}, Ow G H L v d → ∀ b ∈ L, H b ≠ none
  | _, _, _, .val _, _, hb => nomatch hb
  | _, _, _, .frz _, _, hb => nomatch hb
  | _, _, _, .nod h r n, b, hb => by
    rcases List.mem_cons.mp hb with rfl | hb
    · exact some_ne h
    · exact OwAll.there r b hb
theorem OwAll.there {G H : Hp} : ∀ {L : List Addr} {vs : List V} {ds : List Dt}, OwAll G H L vs ds → ∀ b ∈ L, H b ≠ none
  | _, _, _, .nil, _, hb => nomatch hb
  | _, _, _, .cons a r d, b, hb => by
    rcases List.mem_append.mp hb with hb | hb
    · exact Ow.there a b hb
    · exact OwAll.there r b hb
end
theorem OwAll.len {G H : Hp} : ∀ {L : List Addr} {vs : List V} {ds : List Dt}, OwAll G H L vs ds → vs.length = ds.length
  | _, _, _, .nil => rfl
  | _, _, _, .cons _ r _ => congrArg Nat.succ r.len
theorem OwAll.snoc {G H : Hp} {L1 : List Addr} {v : V} {d : Dt} (h : Ow G H L1 v d) : ∀ {L : List Addr} {vs : List V} {ds : List Dt}, OwAll G H L vs ds → (∀ b ∈ L, b ∉ L1) → OwAll G H (L ++ L1) (vs ++ [v]) (ds ++ [d])
  | _, _, _, .nil, _ => by
    have z : OwAll G H (L1 ++ []) [v] [d] := .cons h .nil (fun _ _ z => nomatch z)
    rw [List.append_nil] at z
    exact z
  | _, _, _, .cons (L1 := La) (L2 := Lb) a r n, k => by
    have z := OwAll.cons a (OwAll.snoc h r fun b hb => k b (List.mem_append_right _ hb)) (fun b hb q => by
      rcases List.mem_append.mp q with q | q
      · exact n b hb q
      · exact k b (List.mem_append_left _ hb) q)
    rw [← List.append_assoc] at z
    exact z
theorem OwAll.app {G H : Hp} {L2 : List Addr} {ws : List V} {es : List Dt} (h : OwAll G H L2 ws es) : ∀ {L : List Addr} {vs : List V} {ds : List Dt}, OwAll G H L vs ds → (∀ b ∈ L, b ∉ L2) → OwAll G H (L ++ L2) (vs ++ ws) (ds ++ es)
  | _, _, _, .nil, _ => h
  | _, _, _, .cons (L1 := La) (L2 := Lb) a r n, k => by
    have z := OwAll.cons a (OwAll.app h r fun b hb => k b (List.mem_append_right _ hb)) (fun b hb q => by
      rcases List.mem_append.mp q with q | q
      · exact n b hb q
      · exact k b (List.mem_append_left _ hb) q)
    rw [← List.append_assoc] at z
    exact z
/-! ### trees that are data -/
mutual
inductive Dd : Dt → PyData → Prop
  | non : Dd (.val .non) .none
  | bl (b : Bool) : Dd (.val (.bl b)) (.bool b)
  | int (i : Int) : Dd (.val (.int i)) (.int i)
  | str (x : Str) : Dd (.val (.str x)) (.str x)
  | frz (d : PyData) : Dd (.frz d) d
  | lst {xs : List Dt} {ds : List PyData} : DdAll xs ds → Dd (.nod .lst xs) (.list ds)
  | tup {xs : List Dt} {ds : List PyData} : DdAll xs ds → Dd (.nod .tup xs) (.tuple ds)
inductive DdAll : List Dt → List PyData → Prop
  | nil : DdAll [] []
  | cons {x : Dt} {xs : List Dt} {d : PyData} {ds : List PyData} : Dd x d → DdAll xs ds → DdAll (x :: xs) (d :: ds)
end
mutual
/-- read in any heap that holds its nodes -/
theorem Ow.rp {G H I : Hp} (e : Same G I) : ∀ {L : List Addr} {v : V} {d : Dt} {p : PyData}, Keeps L H I → Ow G H L v d → Dd d p → Rp I v p
  | _, _, _, _, _, .val _, .non => .non
  | _, _, _, _, _, .val _, .bl b => .bl b
  | _, _, _, _, _, .val _, .int i => .int i
  | _, _, _, _, _, .val _, .str x => .str x
  | _, _, _, _, _, .frz r, .frz _ => r.mono e
  | _, _, _, _, k, .nod h r _, .lst q => .lst (k _ List.mem_cons_self _ h) (OwAll.rp e (fun b hb => k b (List.mem_cons_of_mem _ hb)) r q)
  | _, _, _, _, k, .nod h r _, .tup q => .tup (k _ List.mem_cons_self _ h) (OwAll.rp e (fun b hb => k b (List.mem_cons_of_mem _ hb)) r q)
theorem OwAll.rp {G H I : Hp} (e : Same G I) : ∀ {L : List Addr} {vs : List V} {ds : List Dt} {ps : List PyData}, Keeps L H I → OwAll G H L vs ds → DdAll ds ps → RpAll I vs ps
  | _, _, _, _, _, .nil, .nil => .nil
  | _, _, _, _, k, .cons a r _, .cons x xs => .cons (Ow.rp e (fun b hb => k b (List.mem_append_left _ hb)) a x) (OwAll.rp e (fun b hb => k b (List.mem_append_right _ hb)) r xs)
end
def oI (i : Int) : Dt := .val (.int i)
def oB (b : Bool) : Dt := .val (.bl b)
def oF {α : Type} (f : α → PyData) (x : α) : Dt := .frz (f x)
def oL {α : Type} (f : α → Dt) (xs : List α) : Dt := .nod .lst (xs.map f)
def EncO {α : Type} (f : α → Dt) (g : α → PyData) : Prop := ∀ x, Dd (f x) (g x)
theorem encO_I : EncO oI PyData.int := fun i => .int i
theorem encO_B : EncO oB PyData.bool := fun i => .bl i
theorem encO_F {α : Type} {f : α → PyData} : EncO (oF f) f := fun _ => .frz _
theorem EncO.all {α : Type} {f : α → Dt} {g : α → PyData} (h : EncO f g) : ∀ xs : List α, DdAll (xs.map f) (xs.map g)
  | [] => .nil
  | x :: xs => .cons (h x) (EncO.all h xs)
theorem encO_L {α : Type} {f : α → Dt} {g : α → PyData} (h : EncO f g) : EncO (oL f) (encL g) := fun xs => .lst (h.all xs)
theorem keeps_same {L : List Addr} {H H' : Hp} (e : Same H H') : Keeps L H H' := fun b _ o q => e b o q
theorem keeps_refl {L : List Addr} {H : Hp} : Keeps L H H := fun _ _ _ q => q
theorem keeps_mut {L : List Addr} {H H' : Hp} {m : Addr} (x : SameX m H H') (n : ∀ b ∈ L, b ≠ m) : Keeps L H H' := fun b hb o q => x b o q (n b hb)
theorem keeps_muts {L M : List Addr} {H H' : Hp} (x : SameXs M H H') (n : ∀ b ∈ L, b ∉ M) : Keeps L H H' := fun b hb o q => x b o q (n b hb)
theorem keeps_hide {L M : List Addr} {H : Hp} (n : ∀ b ∈ L, b ∉ M) : Keeps L H (hideL M H) := fun b hb o q => by
  rw [hideL_out (n b hb)]
  exact q
section
variable {α : Type} {f : α → Dt} {g : α → PyData} {G H I : Hp} {L : List Addr} {vs : List V} {xs : List α}
theorem OwAll.rpA (w : OwAll G H L vs (xs.map f)) (h : EncO f g) (e : Same G H) : RpAll H vs (xs.map g) := OwAll.rp e keeps_refl w (h.all xs)
theorem OwAll.rpH (w : OwAll G H L vs (xs.map f)) (h : EncO f g) (e : Same G I) (k : Keeps L H I) : RpAll I vs (xs.map g) := OwAll.rp e k w (h.all xs)
theorem OwAll.lenM (w : OwAll G H L vs (xs.map f)) : vs.length = xs.length := by rw [w.len, List.length_map]
theorem OwAll.snocM {L1 : List Addr} {v : V} {y : α} (w : OwAll G H L vs (xs.map f)) (h : Ow G H L1 v (f y)) (n : ∀ b ∈ L, b ∉ L1) : OwAll G H (L ++ L1) (vs ++ [v]) ((xs ++ [y]).map f) := by
  rw [List.map_append]
  exact OwAll.snoc h w n
theorem Ow.ints {a : Addr} {ys : List Int} (h : H a = some (.lst (ys.map V.int))) : Ow G H [a] (.ref a) (oL oI ys) := by
  have z : ∀ ys : List Int, OwAll G H [] (ys.map V.int) (ys.map oI) := fun ys => by
    induction ys with
    | nil => exact .nil
    | cons y r ih => exact .cons (L1 := []) (L2 := []) (.val _) ih (fun _ z => nomatch z)
  exact .nod (k := .lst) h (z ys) (fun z => nomatch z)
theorem Ow.list {a : Addr} {xs : List α} {L : List Addr} {vs : List V} (h : H a = some (.lst vs)) (w : OwAll G H L vs (xs.map f)) (n : ∀ b ∈ L, b ≠ a) : Ow G H (a :: L) (.ref a) (oL f xs) := .nod (k := .lst) h w (fun z => n a z rfl)
theorem Ow.toList {v : V} {L : List Addr} {xs : List α} (w : Ow G H L v (oL f xs)) : ∃ a vs L', v = .ref a ∧ L = a :: L' ∧ H a = some (.lst vs) ∧ OwAll G H L' vs (xs.map f) ∧ ∀ b ∈ L', b ≠ a := by
  unfold oL at w
  cases w with
  | nod h r n => exact ⟨_, _, _, rfl, rfl, h, r, fun b hb z => n (z ▸ hb)⟩
theorem OwAll.toInts : ∀ {L : List Addr} {vs : List V} {xs : List Int}, OwAll G H L vs (xs.map oI) → L = [] ∧ vs = xs.map V.int
  | _, _, [], .nil => ⟨rfl, rfl⟩
  | _, _, x :: xs, .cons a r _ => by
    obtain ⟨h1, h2⟩ := OwAll.toInts r
    cases a
    exact ⟨by rw [h1] <;> rfl, by rw [h2] <;> rfl⟩
theorem Ow.toInts {v : V} {L : List Addr} {xs : List Int} (w : Ow G H L v (oL oI xs)) : ∃ a, v = .ref a ∧ L = [a] ∧ H a = some (.lst (xs.map V.int)) := by
  obtain ⟨a, vs, L', rfl, rfl, h, r, _⟩ := w.toList
  obtain ⟨rfl, rfl⟩ := r.toInts
  exact ⟨a, rfl, rfl, h⟩
/-- the part at a place, and how a change of it alone changes the whole -/
theorem OwAll.part : ∀ {L : List Addr} {vs : List V} {ds : List Dt} {i : Nat} {d : Dt}, OwAll G H L vs ds → ds[i]? = some d → ∃ v L1, vs[i]? = some v ∧ Ow G H L1 v d ∧ (∀ b ∈ L1, b ∈ L) ∧
    ∀ H' d', (∀ b ∈ L, b ∉ L1 → ∀ o, H b = some o → H' b = some o) → Ow G H' L1 v d' → OwAll G H' L vs (ds.set i d')
  | _, _, _, _, _, .nil, h => by simp at h
  | _, _, _, 0, _, .cons (L1 := La) (L2 := Lb) a r n, h => by
    simp at h
    subst h
    refine ⟨_, La, rfl, a, fun b hb => List.mem_append_left _ hb, fun H' d' k w => ?_⟩
    exact .cons w (OwAll.mono (Same.refl G) (fun b hb => k b (List.mem_append_right _ hb) fun z => n b z hb) r) n
  | _, _, _, i + 1, _, .cons (L1 := La) (L2 := Lb) a r n, h => by
    obtain ⟨v, L1, h1, h2, h3, h4⟩ := OwAll.part (i := i) r (by simpa using h)
    refine ⟨v, L1, by simpa using h1, h2, fun b hb => List.mem_append_right _ (h3 b hb), fun H' d' k w => ?_⟩
    refine .cons (Ow.mono (Same.refl G) (fun b hb => k b (List.mem_append_left _ hb) fun z => n b hb (h3 b z)) a) (h4 H' d' (fun b hb nb => k b (List.mem_append_right _ hb) nb) w) n
/-- the same, where the part grows: its new footprint is the old one and what is new -/
theorem OwAll.part2 : ∀ {L : List Addr} {vs : List V} {ds : List Dt} {i : Nat} {d : Dt}, OwAll G H L vs ds → ds[i]? = some d → ∃ v L1, vs[i]? = some v ∧ Ow G H L1 v d ∧ (∀ b ∈ L1, b ∈ L) ∧
    (∀ H' d', (∀ b ∈ L, b ∉ L1 → ∀ o, H b = some o → H' b = some o) → Ow G H' L1 v d' → OwAll G H' L vs (ds.set i d')) ∧
    ∀ H' d' Fv L1', (∀ b ∈ L, b ∉ L1 → ∀ o, H b = some o → H' b = some o) → (∀ b ∈ L1', b ∈ L1 ++ Fv) → (∀ b ∈ Fv, b ∉ L) → Ow G H' L1' v d' → ∃ L', (∀ b ∈ L', b ∈ L ++ Fv) ∧ OwAll G H' L' vs (ds.set i d')
  | _, _, _, _, _, .nil, h => by simp at h
  | _, _, _, 0, _, .cons (L1 := La) (L2 := Lb) a r n, h => by
    simp at h
    subst h
    refine ⟨_, La, rfl, a, fun b hb => List.mem_append_left _ hb, fun H' d' k w => ?_, fun H' d' Fv L1' k s nf w => ⟨L1' ++ Lb, fun b hb => ?_, ?_⟩⟩
    · exact .cons w (OwAll.mono (Same.refl G) (fun b hb => k b (List.mem_append_right _ hb) fun z => n b z hb) r) n
    · rcases List.mem_append.mp hb with hb | hb
      · rcases List.mem_append.mp (s b hb) with q | q
        · exact List.mem_append_left _ (List.mem_append_left _ q)
        · exact List.mem_append_right _ q
      · exact List.mem_append_left _ (List.mem_append_right _ hb)
    · refine .cons w (OwAll.mono (Same.refl G) (fun b hb => k b (List.mem_append_right _ hb) fun z => n b z hb) r) fun b hb q => ?_
      rcases List.mem_append.mp (s b hb) with z | z
      · exact n b z q
      · exact nf b z (List.mem_append_right _ q)
  | _, _, _, i + 1, _, .cons (L1 := La) (L2 := Lb) a r n, h => by
    obtain ⟨v, L1, h1, h2, h3, h4, h5⟩ := OwAll.part2 (i := i) r (by simpa using h)
    refine ⟨v, L1, by simpa using h1, h2, fun b hb => List.mem_append_right _ (h3 b hb), fun H' d' k w => ?_, fun H' d' Fv L1' k s nf w => ?_⟩
    · refine .cons (Ow.mono (Same.refl G) (fun b hb => k b (List.mem_append_left _ hb) fun z => n b hb (h3 b z)) a) (h4 H' d' (fun b hb nb => k b (List.mem_append_right _ hb) nb) w) n
    · obtain ⟨L', s2, z⟩ := h5 H' d' Fv L1' (fun b hb nb => k b (List.mem_append_right _ hb) nb) s (fun b hb q => nf b hb (List.mem_append_right _ q)) w
      refine ⟨La ++ L', fun b hb => ?_, .cons (Ow.mono (Same.refl G) (fun b hb => k b (List.mem_append_left _ hb) fun z => n b hb (h3 b z)) a) z fun b hb q => ?_⟩
      · rcases List.mem_append.mp hb with hb | hb
        · exact List.mem_append_left _ (List.mem_append_left _ hb)
        · rcases List.mem_append.mp (s2 b hb) with q | q
          · exact List.mem_append_left _ (List.mem_append_right _ q)
          · exact List.mem_append_right _ q
      · rcases List.mem_append.mp (s2 b q) with y | y
        · exact n b hb y
        · exact nf b y (List.mem_append_left _ hb)
theorem OwAll.partM [Inhabited α] {k : Int} (w : OwAll G H L vs (xs.map f)) (h : -(xs.length : Int) ≤ k ∧ k < xs.length) : ∃ v L1, atI vs k = some v ∧ Ow G H L1 v (f (itD xs k)) ∧ (∀ b ∈ L1, b ∈ L) ∧
    (∀ H' y, (∀ b ∈ L, b ∉ L1 → ∀ o, H b = some o → H' b = some o) → Ow G H' L1 v (f y) → OwAll G H' L vs ((setL xs k y).map f)) ∧
    ∀ H' y Fv L1', (∀ b ∈ L, b ∉ L1 → ∀ o, H b = some o → H' b = some o) → (∀ b ∈ L1', b ∈ L1 ++ Fv) → (∀ b ∈ Fv, b ∉ L) → Ow G H' L1' v (f y) → ∃ L', (∀ b ∈ L', b ∈ L ++ Fv) ∧ OwAll G H' L' vs ((setL xs k y).map f) := by
  obtain ⟨j, e, hj⟩ := ixN_some h
  have hx := List.getElem?_eq_getElem hj
  obtain ⟨v, L1, h1, h2, h3, h4, h5⟩ := OwAll.part2 (i := j) (d := f xs[j]) w (by rw [List.getElem?_map, hx] <;> rfl)
  have ei : itD xs k = xs[j] := by
    unfold itD atI
    rw [e]
    show (xs[j]?).getD default = _
    rw [hx] <;> rfl
  refine ⟨v, L1, ?_, by rw [ei]; exact h2, h3, fun H' y q w2 => ?_, fun H' y Fv L1' q s nf w2 => ?_⟩
  · unfold atI
    rw [w.lenM, e]
    exact h1
  · have z := h4 H' (f y) q w2
    unfold setL
    rw [e, List.map_set]
    exact z
  · obtain ⟨L', s2, z⟩ := h5 H' (f y) Fv L1' q s nf w2
    refine ⟨L', s2, ?_⟩
    unfold setL
    rw [e, List.map_set]
    exact z
theorem grow_keeps {L L1 : List Addr} {m : Addr} {H H1 H2 : Hp} (e : Same H H1) (x : SameX m H1 H2) (hm : m ∈ L1) : ∀ b ∈ L, b ∉ L1 → ∀ o, H b = some o → H2 b = some o := fun b _ n o q => x b o (e b o q) (fun z => n (z ▸ hm))
theorem grow_sub {a : Addr} {L' Lr Fv : List Addr} (h : ∀ b ∈ L', b ∈ Lr ++ Fv) : ∀ b ∈ a :: L', b ∈ (a :: Lr) ++ Fv := fun b hb => by
  rcases List.mem_cons.mp hb with rfl | hb
  · exact List.mem_cons_self
  · exact List.mem_cons_of_mem _ (h b hb)
/-- the item of a turn -/
theorem OwAll.turn {i : Nat} {v : V} (w : OwAll G H L vs (xs.map f)) (h : vs[i]? = some v) : ∃ x L1, xs[i]? = some x ∧ Ow G H L1 v (f x) ∧ ∀ b ∈ L1, b ∈ L := by
  have hl := get_len h
  have e := w.lenM
  have hx := List.getElem?_eq_getElem (show i < xs.length by omega)
  obtain ⟨v2, L1, h1, h2, h3, _⟩ := OwAll.part (i := i) (d := f xs[i]) w (by rw [List.getElem?_map, hx] <;> rfl)
  rw [h] at h1
  cases h1
  exact ⟨_, L1, hx, h2, h3⟩
end
/-! ### what is owned, in pieces -/
theorem all_app {P : Addr → Prop} {L l : List Addr} (h : ∀ x ∈ L, P x) (t : ∀ x ∈ l, P x) : ∀ x ∈ L ++ l, P x := fun x hx => by
  rcases List.mem_append.mp hx with q | q
  · exact h x q
  · exact t x q
theorem nm_nil {a : Addr} : a ∉ ([] : List Addr) := fun z => nomatch z
theorem nm_cons {a m : Addr} {l : List Addr} (h : a ≠ m) (t : a ∉ l) : a ∉ m :: l := fun z => by
  rcases List.mem_cons.mp z with q | q
  · exact h q
  · exact t q
theorem nm_app {a : Addr} {L l : List Addr} (h : a ∉ L) (t : a ∉ l) : a ∉ L ++ l := fun z => by
  rcases List.mem_append.mp z with q | q
  · exact h q
  · exact t q
theorem there_ne {H : Hp} {L : List Addr} {x : Addr} (t : ∀ b ∈ L, H b ≠ none) (n : H x = none) : ∀ b ∈ L, b ≠ x := fun b hb z => t b hb (z ▸ n)
theorem new_ne {H : Hp} {L : List Addr} {x : Addr} {o : HO} (n : ∀ b ∈ L, H b = none) (h : H x = some o) : ∀ b ∈ L, b ≠ x := fun b hb z => by
  have := n b hb
  rw [z, h] at this
  cases this
theorem new_nl {H : Hp} {L L2 : List Addr} (n : ∀ b ∈ L, H b = none) (t : ∀ b ∈ L2, H b ≠ none) : ∀ b ∈ L, b ∉ L2 := fun b hb z => t b z (n b hb)
theorem nl_symm {L L2 : List Addr} (h : ∀ b ∈ L, b ∉ L2) : ∀ b ∈ L2, b ∉ L := fun b hb z => h b z hb
theorem none_of_same {H H' : Hp} {x : Addr} (e : Same H H') (n : H' x = none) : H x = none := by
  cases q : H x with
  | none => rfl
  | some o =>
    rw [e x o q] at n
    cases n
section
variable {M : List Addr} {H0 G0 G H H' : Hp} {O L : List Addr} {p m : Addr} {o : HO}
theorem Sep.h0 (S : Sep M H0 G0 G H O) {b : Addr} (hb : b ∈ O) (hM : b ∉ M) : H0 b = none := (S.ow b hb).2.2.elim (fun z => (hM z).elim) id
theorem g_nl {a : Addr} {o : HO} (h : G a = some o) (S : Sep M H0 G0 G H O) (hL : ∀ b ∈ L, b ∈ O) : ∀ b ∈ L, b ≠ a := fun b hb => (g_ne h S (hL b hb)).symm
theorem b_nl {a : Addr} {o : HO} (h : (hideL M H0) a = some o) (S : Sep M H0 G0 G H O) (hL : ∀ b ∈ L, b ∈ O) : ∀ b ∈ L, b ≠ a := fun b hb => (b_ne h S (hL b hb)).symm
/-- a whole tree that is to stay as it is -/
theorem Sep.freezeL (S : Sep M H0 G0 G H O) {O' : List Addr} (hL : ∀ b ∈ L, b ∈ O) (h0 : ∀ b ∈ L, H0 b = none) (hO : ∀ b ∈ O', b ∈ O ∧ b ∉ L) : ∃ G', Same G G' ∧ Keeps L H G' ∧ Sep M H0 G0 G' H O' := by
  have gn : ∀ b ∈ L, G b = none := fun b hb => (S.ow b (hL b hb)).1
  refine ⟨fun b => if b ∈ L then H b else G b, fun b u q => ?_, fun b hb u q => ?_, S.base, S.pm, fun b u q => ?_, fun b u q => ?_, fun b hb gb => ?_, fun a ha => ?_⟩
  · have n : b ∉ L := fun z => by
      rw [gn b z] at q
      cases q
    show (if b ∈ L then H b else G b) = _
    rw [if_neg n]
    exact q
  · show (if b ∈ L then H b else G b) = _
    rw [if_pos hb]
    exact q
  · by_cases z : b ∈ L
    · exact (if_pos z).symm.trans q
    · exact S.sG b u ((if_neg z).symm.trans q)
  · have z : b ∉ L := fun z => by
      have := S.g0 b u q
      rw [gn b z] at this
      cases this
    show (if b ∈ L then H b else G b) = _
    rw [if_neg z]
    exact S.g0 b u q
  · have z : b ∉ L := fun z => hb (h0 b z)
    show (if b ∈ L then H b else G b) = _
    rw [if_neg z]
    exact S.gn b hb gb
  · obtain ⟨h1, h2⟩ := hO a ha
    refine ⟨?_, (S.ow a h1).2⟩
    show (if a ∈ L then H a else G a) = _
    rw [if_neg h2]
    exact (S.ow a h1).1
/-- a callee hands over a list of lists of its own making -/
theorem Sep.steptree (S : Sep M H0 G0 G H O) {G' : Hp} (e : Same H H') (eG : Same G G') (sG : Same G' H') (hn : ∀ b, H b ≠ none → G b = none → G' b = none) (L : List Addr) (hL : ∀ b ∈ L, H b = none ∧ G' b = none ∧ H' b ≠ none) : Sep M H0 G0 G' H' (L ++ O) := by
  have S2 := S.step e eG sG hn
  refine ⟨S2.base, S2.pm, S2.sG, S2.g0, S2.gn, all_app (fun b hb => ⟨(hL b hb).2.1, (hL b hb).2.2, .inr (S.free (hL b hb).1)⟩) S2.ow⟩
end
theorem Rp.list_of {α : Type} {g : α → PyData} {H : Hp} {a : Addr} {vs : List V} {xs : List α} (h : H a = some (.lst vs)) (r : RpAll H vs (xs.map g)) : Rp H (.ref a) (encL g xs) := .lst h r
/-! ### repr of data -/
mutual
def nodes : PyData → Nat
  | .list xs => 1 + nodesAll xs
  | .tuple xs => 1 + nodesAll xs
  | _ => 1
def nodesAll : List PyData → Nat
  | [] => 0
  | x :: xs => nodes x + nodesAll xs
end
mutual
def smallD : PyData → Bool
  | .none => true
  | .bool _ => true
  | .int i => decide (i.natAbs < 10 ^ 19)
  | .str x => decide ((reprText x).length ≤ 20)
  | .list xs => smallAll xs
  | .tuple xs => smallAll xs
  | _ => false
def smallAll : List PyData → Bool
  | [] => true
  | x :: xs => smallD x && smallAll xs
end
theorem piled_list (ts : List Str) : (listText ts).length ≤ piled ts + 2 := by
  cases ts with
  | nil => exact Nat.le_refl 2
  | cons t r =>
    have e : (listText (t :: r)).length = (textFrom 1 ("[" ++ ("" : String) ++ t) r).length + 1 := by
      show (textFrom 0 "[" (t :: r) ++ "]").length = _
      rw [strLen_append]
      rfl
    rw [e, textFrom_length_pos r 1 _ (by decide), piled_cons, strLen_append, strLen_append]
    have h1 : (("[" : String) : Str).length = 1 := rfl
    have h2 : (("" : String) : Str).length = 0 := rfl
    omega
theorem piled_tup (ts : List Str) : (tupleText ts).length ≤ piled ts + 3 := by
  unfold tupleText
  rw [strLen_append, strLen_append]
  have h1 : (("(" : String) : Str).length = 1 := rfl
  have h2 : (((if ts.length == 1 then ",)" else ")" : String) : Str)).length ≤ 2 := by split <;> decide
  by_cases h : ts = []
  · subst h
    exact Nat.le_of_lt (by decide)
  · have := join_length_add ts h
    omega
mutual
theorem small_shown : ∀ d : PyData, smallD d = true → d.shown.length + 4 ≤ 26 * nodes d ∧ d.showable = true ∧ d.hasDict = false
  | .none, _ => ⟨by simp only [PyData.shown, nodes]; decide, by simp [PyData.showable], by simp [PyData.hasDict]⟩
  | .bool b, _ => ⟨by cases b <;> simp only [PyData.shown, nodes] <;> decide, by simp [PyData.showable], by simp [PyData.hasDict]⟩
  | .int i, h => by
    have h : i.natAbs < 10 ^ 19 := by simpa [smallD] using h
    refine ⟨?_, ?_, by simp [PyData.hasDict]⟩
    · have := int_text_length_le10 (k := 19) (by decide) h
      simp only [PyData.shown, nodes]
      rw [PySem.ofString_length]
      omega
    · simp only [PyData.showable, decide_eq_true_eq]
      have : i.natAbs < 2 ^ 64 := by omega
      rcases Nat.eq_zero_or_pos i.natAbs with z | z
      · rw [z]
        decide
      · have := (Nat.log2_lt (by omega)).mpr this
        omega
  | .str x, h => by
    have h : (reprText x).length ≤ 20 := by simpa [smallD] using h
    refine ⟨by simp only [PyData.shown, nodes]; omega, by simp [PyData.showable], by simp [PyData.hasDict]⟩
  | .list xs, h => by
    obtain ⟨h1, h2, h3⟩ := small_shownAll xs (by simpa [smallD] using h)
    refine ⟨?_, by simpa [PyData.showable] using h2, by simpa [PyData.hasDict] using h3⟩
    have := piled_list (PyData.shownAll xs)
    simp only [PyData.shown, nodes]
    omega
  | .tuple xs, h => by
    obtain ⟨h1, h2, h3⟩ := small_shownAll xs (by simpa [smallD] using h)
    refine ⟨?_, by simpa [PyData.showable] using h2, by simpa [PyData.hasDict] using h3⟩
    have := piled_tup (PyData.shownAll xs)
    simp only [PyData.shown, nodes]
    omega
  | .dict kvs, h => by simp [smallD] at h
theorem small_shownAll : ∀ ds : List PyData, smallAll ds = true → piled (PyData.shownAll ds) ≤ 26 * nodesAll ds ∧ PyData.showableAll ds = true ∧ PyData.hasDictAll ds = false
  | [], _ => ⟨by simp [PyData.shownAll, nodesAll, piled], by simp [PyData.showableAll], by simp [PyData.hasDictAll]⟩
  | d :: ds, h => by
    have h : smallD d = true ∧ smallAll ds = true := by simpa [smallAll] using h
    obtain ⟨a1, a2, a3⟩ := small_shown d h.1
    obtain ⟨b1, b2, b3⟩ := small_shownAll ds h.2
    refine ⟨?_, by simp [PyData.showableAll, a2, b2], by simp [PyData.hasDictAll, a3, b3]⟩
    simp only [PyData.shownAll, nodesAll, piled_cons]
    omega
end
/-- data that repr may show -/
def ShowOk (d : PyData) : Prop := smallD d = true ∧ nodes d ≤ 600000 ∧ d.depth ≤ 60
instance (d : PyData) : Decidable (ShowOk d) := by unfold ShowOk; infer_instance
def rRepr : List V → Hp → VK → Prop := fun xs H Q => ∃ (a : Addr) (d : PyData), xs = [.ref a] ∧ Rp H (.ref a) d ∧ ShowOk d ∧ Q (.str d.shown) H
theorem call_reprD {X : Cx} (hg : X.A.guards = some []) (hu : X.A.units + 64 < cLine) : CallR X (.builtin "repr") rRepr := by
  intro pins s σ H xs us Q I r h
  obtain ⟨a, d, rfl, rp, ⟨ok, nd, dp⟩, q⟩ := h
  obtain ⟨h1, h2, h3⟩ := small_shown d ok
  cases r with
  | cons ra rn =>
    cases rn
    cases ra
    obtain ⟨as, reads⟩ := Dp.reads I d _ _ rp.dp rfl
    refine repr_of_reads' reads h2 (PyData.noDict_hsm h3) hg (by omega) (fun _ _ e => e) (fun h' u tk k => ⟨.str d.shown, H, I.kept k, ⟨u, rfl⟩, q⟩) ?_
    show d.shown.length ≤ 2 ^ 24
    omega
/-- small data: nodes, depth -/
def Sm (n k : Nat) (d : PyData) : Prop := smallD d = true ∧ nodes d ≤ n ∧ d.depth ≤ k
theorem Sm.imp {n k n' k' : Nat} {d : PyData} (h : Sm n k d) (a : n ≤ n') (b : k ≤ k') : Sm n' k' d := ⟨h.1, Nat.le_trans h.2.1 a, Nat.le_trans h.2.2 b⟩
theorem Sm.show {n k : Nat} {d : PyData} (h : Sm n k d) (a : n ≤ 600000 := by decide) (b : k ≤ 60 := by decide) : ShowOk d := h.imp a b
theorem sm_non : Sm 1 0 .none := ⟨by simp [smallD], by simp [nodes], by simp [PyData.depth]⟩
theorem sm_bool (b : Bool) : Sm 1 0 (.bool b) := ⟨by simp [smallD], by simp [nodes], by simp [PyData.depth]⟩
theorem sm_int {i : Int} (h : -10000000000000000000 < i ∧ i < 10000000000000000000) : Sm 1 0 (.int i) := ⟨by simp only [smallD, decide_eq_true_eq]; omega, by simp [nodes], by simp [PyData.depth]⟩
theorem sm_all {α : Type} {f : α → PyData} {n k : Nat} : ∀ {xs : List α}, (∀ x ∈ xs, Sm n k (f x)) → smallAll (xs.map f) = true ∧ nodesAll (xs.map f) ≤ xs.length * n ∧ PyData.depthAll (xs.map f) ≤ k
  | [], _ => ⟨by simp [smallAll], by simp [nodesAll], by simp [PyData.depthAll]⟩
  | x :: xs, h => by
    obtain ⟨a1, a2, a3⟩ := h x List.mem_cons_self
    obtain ⟨b1, b2, b3⟩ := sm_all fun y hy => h y (List.mem_cons_of_mem _ hy)
    refine ⟨by simp [smallAll, a1, b1], ?_, ?_⟩
    · simp only [List.map_cons, nodesAll, List.length_cons, Nat.succ_mul]
      omega
    · simp only [List.map_cons, PyData.depthAll]
      omega
theorem sm_L {α : Type} {f : α → PyData} {n k m : Nat} {xs : List α} (h : ∀ x ∈ xs, Sm n k (f x)) (hm : xs.length ≤ m) : Sm (1 + m * n) (k + 1) (encL f xs) := by
  obtain ⟨a1, a2, a3⟩ := sm_all h
  refine ⟨by simp [encL, smallD, a1], ?_, ?_⟩
  · have := Nat.mul_le_mul_right n hm
    simp only [encL, nodes]
    omega
  · simp only [encL, PyData.depth]
    omega
theorem sm_ints {xs : List Int} {m : Nat} (h : ∀ x ∈ xs, -10000000000000000000 < x ∧ x < 10000000000000000000) (hm : xs.length ≤ m) : Sm (1 + m * 1) 1 (encL PyData.int xs) := sm_L (fun x hx => sm_int (h x hx)) hm
theorem sm_T2 {α β : Type} {f : α → PyData} {g : β → PyData} {n k m j : Nat} {p : α × β} (h1 : Sm n k (f p.1)) (h2 : Sm m j (g p.2)) : Sm (1 + n + m) (max k j + 1) (encT2 f g p) := by
  obtain ⟨a1, a2, a3⟩ := h1
  obtain ⟨b1, b2, b3⟩ := h2
  refine ⟨by simp [encT2, smallD, smallAll, a1, b1], ?_, ?_⟩
  · simp only [encT2, nodes, nodesAll]
    omega
  · simp only [encT2, PyData.depth, PyData.depthAll]
    omega
theorem sm_T3 {α β γ : Type} {f : α → PyData} {g : β → PyData} {h : γ → PyData} {n k m j l i : Nat} {p : α × β × γ} (h1 : Sm n k (f p.1)) (h2 : Sm m j (g p.2.1)) (h3 : Sm l i (h p.2.2)) : Sm (1 + n + m + l) (max k (max j i) + 1) (encT3 f g h p) := by
  obtain ⟨a1, a2, a3⟩ := h1
  obtain ⟨b1, b2, b3⟩ := h2
  obtain ⟨c1, c2, c3⟩ := h3
  refine ⟨by simp [encT3, smallD, smallAll, a1, b1, c1], ?_, ?_⟩
  · simp only [encT3, nodes, nodesAll]
    omega
  · simp only [encT3, PyData.depth, PyData.depthAll]
    omega
end Vx
namespace Vx
open PySem PySem.Spec PyProof.Rows L2
theorem new_ne2 {H : Hp} {L : List Addr} {x : Addr} (n : ∀ b ∈ L, H b = none) (h : H x ≠ none) : ∀ b ∈ L, b ≠ x := fun b hb z => h (z ▸ n b hb)
theorem upd_tree {α : Type} {f : α → Dt} {G H H' : Hp} {L L1 : List Addr} {vs : List V} {xs : List α} {k : Int} {v : V} {m : Addr} {y : α} (up : ∀ H' y, (∀ b ∈ L, b ∉ L1 → ∀ o, H b = some o → H' b = some o) → Ow G H' L1 v (f y) → OwAll G H' L vs ((setL xs k y).map f)) (x : SameX m H H') (hm : m ∈ L1) (w : Ow G H' L1 v (f y)) :
    OwAll G H' L vs ((setL xs k y).map f) := up H' y (fun c _ n o q => x c o q (fun z => n (z ▸ hm))) w
theorem Ow.toFrz {α : Type} {f : α → PyData} {G H : Hp} {L : List Addr} {v : V} {x : α} (w : Ow G H L v (oF f x)) : L = [] ∧ Rp G v (f x) := by
  unfold oF at w
  cases w with
  | frz r => exact ⟨rfl, r⟩
section
variable {α : Type} {f : α → Dt} {G H : Hp} {L : List Addr} {vs : List V} {xs : List α}
theorem OwAll.pin {i : Nat} {v : V} {x : α} (w : OwAll G H L vs (xs.map f)) (h : vs[i]? = some v) (hx : xs[i]? = some x) : ∃ L1, Ow G H L1 v (f x) ∧ ∀ b ∈ L1, b ∈ L := by
  obtain ⟨y, L1, h1, h2, h3⟩ := OwAll.turn w h
  rw [hx] at h1
  cases h1
  exact ⟨L1, h2, h3⟩
theorem OwAll.pinInts {i : Nat} {b : Addr} {xs : List (List Int)} {x : List Int} (w : OwAll G H L vs (xs.map (oL oI))) (h : vs[i]? = some (.ref b)) (hx : xs[i]? = some x) : H b = some (.lst (x.map V.int)) ∧ b ∈ L := by
  obtain ⟨L1, w1, h1⟩ := OwAll.pin w h hx
  obtain ⟨c, e, rfl, h2⟩ := Ow.toInts w1
  cases e
  exact ⟨h2, h1 _ List.mem_cons_self⟩
end
end Vx
namespace Vx
open PySem PySem.Spec PyProof.Rows L2
theorem lookup_relab {c : Str → Bool} {y : Str} : ∀ l : List (Str × NameKind), (l.lookup y = some .cell ∨ l.lookup y = some .free) →
    ((l.map fun (n, k) => if (k == .free && c n) then (n, NameKind.cell) else (n, k)).lookup y = some .cell ∨ (l.map fun (n, k) => if (k == .free && c n) then (n, NameKind.cell) else (n, k)).lookup y = some .free)
  | [], h => by simp at h
  | (n, k) :: r, h => by
    rw [List.map_cons]
    dsimp only
    by_cases e : y == n
    · have hk : k = .cell ∨ k = .free := by
        rw [List.lookup_cons, e] at h
        simpa using h
      by_cases q : (k == .free && c n) = true
      · left
        rw [if_pos q, List.lookup_cons, e]
      · rw [if_neg q, List.lookup_cons, e]
        simpa using hk
    · have e : (y == n) = false := by simpa using e
      rw [List.lookup_cons, e] at h
      have ih := lookup_relab (c := c) r h
      by_cases q : (k == .free && c n) = true
      · rw [if_pos q, List.lookup_cons, e]
        exact ih
      · rw [if_neg q, List.lookup_cons, e]
        exact ih
theorem blk_relabel {N : List Str} {sc scope : Scope} {env : Env} {own : List (Str × Nat)} (h : BlkOk N sc scope own) : BlkOk N (relabel sc env) scope own := by
  refine ⟨h.kind, h.uniq, h.ix, fun y hy e => ?_, h.own⟩
  have z := lookup_relab (c := fun n => env.scope.kind == .function && env.kindOf n == some .cell) (y := y.1) sc.names (h.free y hy e)
  unfold relabel
  simpa only [Bool.and_assoc] using z
end Vx
namespace Vx
open PySem PySem.Spec PyProof.Rows L2
theorem FnG.low {P : Program} {w : World} {K : PySem.W.Frag} {mg : Str → Option Value} {base : Heap} {cx : CXT} {j k : Nat} {f : Addr} {fd : FuncData} {ps : List Str} {sp : Sp} (F : FnG P w K mg base cx j f fd ps sp) (h : j ≤ k) : FnG P w K mg base cx k f fd ps sp := ⟨F.len, fun A o s H a us vs Q E r => F.run A o s H a us vs Q E (r.low h)⟩
/-! ### a local name that holds one of several defs -/
structure HeldX (P : Program) (w : World) (K : PySem.W.Frag) (mg : Str → Option Value) (base : Heap) (k n : Nat) (f : Addr) (sp : Sp) : Prop where
  ex : ∃ (fd : FuncData) (ps : List Str), FnG P w K mg base (L2.CX P w) k f fd ps sp ∧ PySem.W.keepIn K (.ref f) = true ∧ Bnd K fd ps n [] (fun vs _ => vs)
theorem HeldX.of {P : Program} {w : World} {K : PySem.W.Frag} {mg : Str → Option Value} {base : Heap} {j k n : Nat} {x : Str} {sp : Sp} {pats : List Pat} {a : Addr} (c : CalX P w K mg base j x sp pats) (hx : mg x = some (.ref a)) (hp : (n, [], fun vs _ => vs) ∈ pats) (hj : j ≤ k) : HeldX P w K mg base k n a sp := by
  obtain ⟨f, fd, ps, F, hm, kp, b⟩ := c.ex
  rw [hx] at hm
  injection hm with hm
  injection hm with hm
  subst hm
  exact ⟨fd, ps, F.low hj, kp, b _ hp⟩
def tCallF (i n : Nat) (L : List (Addr × Sp)) (W : WX) (t : TA) : TE := fun σ H Q => ∃ f sp, σ[i]? = some (some (.ref f)) ∧ (f, sp) ∈ L ∧ t σ H fun vs H1 => vs.length = n ∧ ([] : List V).length = 0 ∧ sp vs H1 Q (WE W σ)
theorem vx_callF {X : Cx} {k j i n : Nat} {x : Str} {p pos : Pos} {e : Expr} {es : List Expr} {t : TA} {W : WX} (L : List (Addr × Sp)) (A : ∀ q ∈ L, HeldX X.prog X.w X.K X.mg X.base k n q.1 q.2) (hr : RoomG j X.A) (hk : k ≤ j) (tkW : Takes X W) (hN : X.N[i]? = some x) (hv : Vis X.env.scope x) (ha : PA X (e :: es) t)
    (hdb : (x == ("__debug__" : Str)) = false := by decide) (hcd : (x == ("__classdict__" : Str)) = false := by decide) (he : starEach (e :: es) X.env = (false, eval e X.env) :: starEach es X.env := by rfl) (hpl : (backTo pos (starEach es X.env)).any (·.1) = false := by rfl) :
    PE X (.Call (.Name x p) (e :: es) [] pos) (tCallF i n L W t) := by
  constructor
  intro pins s σ H Q I h
  obtain ⟨f, sp, slot, mem, rest⟩ := h
  obtain ⟨fd, ps, F, kp, b⟩ := (A _ mem).ex
  refine wpAny_Call_Name_kw (thn ((pe_var (pos := p) hN hv hdb hcd).run pins s σ H (fun v H1 => v = .ref f ∧ H1 = H) I ⟨.ref f, slot, rfl, rfl⟩) ?_)
  rintro u s1 ⟨v, H1, I1, r1, rfl, rfl⟩
  cases r1
  refine PySem.W.callWith_K (h₀ := X.base) I.ok.mod.kin kp (thn (ha.run pos pins s1 σ _ _ I1 rest) ?_) he hpl
  rintro us s2 ⟨vs, H2, I2, r, l1, l2, q⟩
  exact ⟨I2.kIn, run_X (us := us) (ws := []) (zs := []) F (hr.low hk) b tkW I2 r .nil l1 l2 q⟩
/-! ### the least of a list, the place of an item -/
def minL : List Int → Int
  | [] => 0
  | [x] => x
  | x :: y :: r => if x ≤ minL (y :: r) then x else minL (y :: r)
theorem minL_spec : ∀ (xs : List Int), xs ≠ [] → minL xs ∈ xs ∧ ∀ y ∈ xs, minL xs ≤ y
  | [], h => absurd rfl h
  | [x], _ => ⟨List.mem_cons_self, fun y hy => by rw [List.mem_singleton.mp hy]; exact Int.le_refl x⟩
  | x :: y :: r, _ => by
    obtain ⟨h1, h2⟩ := minL_spec (y :: r) (fun z => nomatch z)
    unfold minL
    split
    · refine ⟨List.mem_cons_self, fun z hz => ?_⟩
      rcases List.mem_cons.mp hz with rfl | hz
      · exact Int.le_refl _
      · have := h2 z hz
        omega
    · refine ⟨List.mem_cons_of_mem _ h1, fun z hz => ?_⟩
      rcases List.mem_cons.mp hz with rfl | hz
      · omega
      · exact h2 z hz
def maxL (xs : List Int) : Int := -(minL (xs.map fun x => -x))
theorem maxL_spec (xs : List Int) (h : xs ≠ []) : maxL xs ∈ xs ∧ ∀ y ∈ xs, y ≤ maxL xs := by
  obtain ⟨h1, h2⟩ := minL_spec (xs.map fun x => -x) (by simpa using h)
  obtain ⟨z, hz, e⟩ := List.mem_map.mp h1
  unfold maxL
  refine ⟨by rw [← e, Int.neg_neg]; exact hz, fun y hy => ?_⟩
  have := h2 _ (List.mem_map_of_mem hy)
  omega
section
variable {X : Cx} {K : PySem.W.Frag}
def rMinL (K : PySem.W.Frag) : List V → Hp → VK → Prop := fun vs H Q => ∃ (a : Addr) (ns : List Int), vs = [V.ref a] ∧ SqL K H a (ns.map V.int) ∧ ns ≠ [] ∧ Q (.int (minL ns)) H
def rMaxL (K : PySem.W.Frag) : List V → Hp → VK → Prop := fun vs H Q => ∃ (a : Addr) (ns : List Int), vs = [V.ref a] ∧ SqL K H a (ns.map V.int) ∧ ns ≠ [] ∧ Q (.int (maxL ns)) H
theorem cr_minL (hc : X.calm = true) (hK : X.K = K := by rfl) : CallR X (.builtin "min") (rMinL K) := by
  subst hK
  intro pins s σ H vs us Q I r h
  obtain ⟨a, ns, rfl, hs, hn, q⟩ := h
  refine cr_min hc pins s σ H _ us Q I r ⟨a, ns, rfl, hs, List.length_pos_iff.mpr hn, fun m hm hle => ?_⟩
  obtain ⟨h1, h2⟩ := minL_spec ns hn
  have e : m = minL ns := Int.le_antisymm (by have := hle _ h1; omega) (h2 m hm)
  rw [e]
  exact q
theorem cr_maxL (hc : X.calm = true) (hK : X.K = K := by rfl) : CallR X (.builtin "max") (rMaxL K) := by
  subst hK
  intro pins s σ H vs us Q I r h
  obtain ⟨a, ns, rfl, hs, hn, q⟩ := h
  refine cr_max hc pins s σ H _ us Q I r ⟨a, ns, rfl, hs, List.length_pos_iff.mpr hn, fun m hm hle => ?_⟩
  obtain ⟨h1, h2⟩ := maxL_spec ns hn
  have e : m = maxL ns := Int.le_antisymm (h2 m hm) (by have := hle _ h1; omega)
  rw [e]
  exact q
end
end Vx
namespace Vx
open PySem PySem.Spec PyProof.Rows L2
def idxL (ns : List Int) (i : Int) : Int := (ns.idxOf i : Nat)
def rIndexI (K : PySem.W.Frag) : V → List V → Hp → VK → Prop := fun x xs H Q => ∃ (a : Addr) (ns : List Int) (i : Int), x = V.ref a ∧ xs = [.int i] ∧ SqL K H a (ns.map V.int) ∧ i ∈ ns ∧ Q (.int (idxL ns i)) H
theorem mt_indexI {X : Cx} {K : PySem.W.Frag} (hK : X.K = K := by rfl) : MtR X "list.index" (rIndexI K) := by
  subst hK
  intro pins s σ H x xs v us Q I rx rxs h
  obtain ⟨a, ns, i, rfl, rfl, hs, hi, q⟩ := h
  have hl := List.idxOf_lt_length_of_mem hi
  refine mt_index pins s σ H _ _ v us Q I rx rxs ⟨a, _, .int i, ns.idxOf i, .int i, rfl, rfl, hs, rfl, flat_ints ns, ?_, by simp [eqV], fun m z hm hz => ?_, q⟩
  · rw [List.getElem?_map, List.getElem?_eq_getElem hl, List.getElem_idxOf hl] <;> rfl
  · rw [List.getElem?_map] at hz
    cases e : ns[m]? with
    | none => rw [e] at hz; cases hz
    | some y =>
      rw [e] at hz
      cases hz
      have hml : m < ns.length := by omega
      have hy : ns[m] = y := by
        rw [List.getElem?_eq_getElem hml] at e
        exact Option.some.inj e
      have := List.not_of_lt_findIdx (p := (· == i)) (xs := ns) (i := m) hm
      simp only [beq_iff_eq, hy] at this
      simp [eqV, this]
theorem cW_aftgo {σ ρ τ : Type} {s : σ} {kr : ρ → Rx τ} {k : σ → Rx τ} {K : τ → Prop} {E : Nat → Prop} (h : cW ((Lp.go s : Lp σ ρ).aft kr k) K E) : cW (k s) K E := h
end Vx
namespace Vx
open PySem PySem.Spec PyProof.Rows L2
/-! ### a truth value or a number beside a number -/
def Bi.num : Bi → Int
  | .b x => if x then 1 else 0
  | .n i => i
def Bi.dat : Bi → PyData
  | .b x => .bool x
  | .n i => .int i
section
variable {X : Cx}
def rEqBI : R2 := fun x y H Q => ∃ (b : Bi) (i : Int), x = biV b ∧ y = .int i ∧ Q (.bl (decide (b.num = i))) H
def rNeBI : R2 := fun x y H Q => ∃ (b : Bi) (i : Int), x = biV b ∧ y = .int i ∧ Q (.bl (!decide (b.num = i))) H
theorem eqv_bi (b : Bi) (i : Int) : PyData.eqv b.dat (.int i) = decide (b.num = i) := by
  cases b with
  | b x => cases x <;> (rw [Bool.eq_iff_iff]; simp [Bi.dat, Bi.num, PyData.eqv])
  | n j =>
    rw [Bool.eq_iff_iff]
    simp only [Bi.dat, Bi.num, PyData.eqv, beq_iff_eq]
    exact decide_eq_true_iff.symm
theorem dp_bi {K : PySem.W.Frag} {H : Hp} : ∀ b : Bi, Dp K H (biV b) b.dat
  | .b x => .bl x
  | .n i => .int i
theorem shaped_bi : ∀ b : Bi, SeqAt.shaped b.dat = true
  | .b x => by unfold SeqAt.shaped; simp [Bi.dat, PyData.canLay0, PyData.depth]
  | .n i => by unfold SeqAt.shaped; simp [Bi.dat, PyData.canLay0, PyData.depth]
theorem op_eqBI (hu : X.A.units + 64 < cLine) : OpR X (compareOp .Eq) rEqBI := by
  intro pins s σ H x y v u Q I rx ry h
  obtain ⟨b, i, rfl, rfl, q⟩ := h
  exact op_eqD hu pins s σ H _ _ v u Q I rx ry ⟨b.dat, .int i, dp_bi b, .int i, shaped_bi b, shaped_bi (.n i), by rw [eqv_bi]; exact q⟩
theorem op_neBI (hu : X.A.units + 64 < cLine) : OpR X (compareOp .NotEq) rNeBI := by
  intro pins s σ H x y v u Q I rx ry h
  obtain ⟨b, i, rfl, rfl, q⟩ := h
  exact op_neD hu pins s σ H _ _ v u Q I rx ry ⟨b.dat, .int i, dp_bi b, .int i, shaped_bi b, shaped_bi (.n i), by rw [eqv_bi]; exact q⟩
end
end Vx
namespace Vx
open PySem PySem.Spec PyProof.Rows L2
/-! ### == of own objects by an own __eq__ that never raises -/
section
variable {X : Cx} {k j : Nat}
def rEqX (C : Addr) (n mm : Nat) (sp : Sp) (g : List V → List V → List V) : R2 := fun x y H Q => ∃ (a b dx dy : Addr) (fs gs : List (Str × V)), x = .ref a ∧ y = .ref b ∧ H a = some (.ins C dx fs) ∧ H b = some (.ins C dy gs) ∧ 2 = n ∧ 0 = mm ∧ sp (g [x, y] []) H (fun v H' => (∃ r, v = .bl r) ∧ Q v H') E0
theorem op_eqX {C : Addr} {sp : Sp} {pats : List Pat} (c : MetX X.prog X.w X.K X.mg X.base k C "__eq__" sp pats) (pt : Pat) (hpt : pt ∈ pats) (hr : RoomG j X.A) (hk : k ≤ j) (hks : pt.2.1 = [] := by rfl) : OpR X (compareOp .Eq) (rEqX C pt.1 pt.2.1.length sp pt.2.2) := by
  intro pins s σ H x y v u Q I rx ry hq
  obtain ⟨a, b, dx, dy, fs, gs, rfl, rfl, ha, hb', l1, l2, q⟩ := hq
  obtain ⟨f, fd, ps, hc, hm, F, bb⟩ := c.ex
  cases rx
  cases ry
  obtain ⟨mA, J, _⟩ := ins_get I.hok ha
  obtain ⟨mB, J', _⟩ := ins_get I.hok hb'
  obtain ⟨od, J, _⟩ := J.look
  obtain ⟨od', J', _⟩ := J'.look
  obtain ⟨m, hF⟩ := I.fr
  have hz := run_X (us := [.ref a, .ref b]) (vs := [.ref a, .ref b]) (ws := []) (zs := []) F (hr.low hk) (bb pt hpt) (takes0 (X := X)) I (.cons rfl (.cons rfl .nil)) .nil l1 l2 q
  rw [hks] at hz
  show wpAny (model X.prog X.w) X.A (richCompare .Eq (.ref a) (.ref b)) (EP X pins σ Q) X.xe s
  refine PySem.W.cmp_K (op := .Eq) (tb := .ref C) (hr.low hk).toRoom.units0 hF I.ok.mod.kin J J'.type (by simp [PySem.W.notFirst]) hm.at_ hm.fn ?_
  refine wpAny_mono hz (fun r s' z => ?_) fun _ _ e => e
  obtain ⟨w, H', I', rw', ⟨⟨q1, rfl⟩, q2⟩⟩ := z
  cases rw'
  exact ⟨V.bl q1, H', I', rfl, q2⟩
end
end Vx
namespace Vx
open PySem PySem.Spec PyProof.Rows L2
/-! ### isinstance of the exception in hand: a built-in class, a tuple of classes -/
theorem kit_blt {K : PySem.W.Frag} {D : Addr} {T : String} {b : Bool} (h : PySem.W.subIn K (.ref D) (.type T) = some b) (h0 : PySem.W.kitMeta T = true := by decide +kernel) : PySem.W.kitOne K (.ref D) (.type T) = some b := by
  unfold PySem.W.kitOne
  rw [if_neg (show ¬ (Value.ref D == Value.type T) = true from fun z => nomatch (show false = true from z))]
  show (if PySem.W.kitMeta T = true then PySem.W.subIn K (.ref D) (.type T) else none) = some b
  rw [if_pos h0, h]
def rIsXB (K : PySem.W.Frag) (a : Addr) (cls : Value) (d : Option Addr) : List V → Hp → VK → Prop := fun xs H Q => ∃ (D : Addr) (T : String) (b : Bool), cls = .ref D ∧ d = none ∧ ExcC K D ∧ xs = [.ref a, .ty T] ∧ PySem.W.kitOne K (.ref D) (.type T) = some b ∧ Q (.bl b) H
theorem call_isXB {X : Cx} {K : PySem.W.Frag} {a : Addr} {cls : Value} {d : Option Addr} {oe : Obj} {pn : List (Addr × Obj)} (hz : Zc cls d oe) (hf : ∃ vs, oe.data = .fields vs) (hK : X.K = K := by rfl) : CallR (X.suite a ((a, oe) :: pn)) (.builtin "isinstance") (rIsXB K a cls d) := by
  subst hK
  intro pins s σ H xs us Q I r h
  obtain ⟨D, T, b, rfl, rfl, c, rfl, e, q⟩ := h
  exact call_isE c hz hf pins s σ H _ us Q I r ⟨_, _, b, rfl, fun u z => z, e, q⟩
def rIsXT (K : PySem.W.Frag) (a : Addr) (cls : Value) (d : Option Addr) : List V → Hp → VK → Prop := fun xs H Q => ∃ (D tp : Addr) (cs : List V) (ws : List Value) (b : Bool), cls = .ref D ∧ d = none ∧ ExcC K D ∧ xs = [.ref a, .ref tp] ∧ H tp = some (.tup cs) ∧ Paired ClsV cs ws ∧ PySem.W.kitAny K (.ref D) ws = some b ∧ Q (.bl b) H
theorem call_isXT {X : Cx} {K : PySem.W.Frag} {a : Addr} {cls : Value} {d : Option Addr} {oe : Obj} {pn : List (Addr × Obj)} (hz : Zc cls d oe) (hf : ∃ vs, oe.data = .fields vs) (hK : X.K = K := by rfl) : CallR (X.suite a ((a, oe) :: pn)) (.builtin "isinstance") (rIsXT K a cls d) := by
  subst hK
  intro pins s σ H xs us Q I r h
  obtain ⟨D, tp, cs, ws, b, rfl, rfl, C, rfl, hT, k, e, q⟩ := h
  cases r with
  | cons rx rr =>
    cases rr with
    | cons rt rr =>
      cases rr
      cases rx
      cases rt
      obtain ⟨hget, _⟩ := I.pin (a, oe) (List.mem_append.mpr (.inl List.mem_cons_self))
      obtain ⟨vs, hv⟩ := hf
      have J : PySem.W.InstAt s.heap a oe D none := by
        obtain ⟨oc, od, oda, osl⟩ := oe
        obtain ⟨h1, h2⟩ := hz
        dsimp only at h1 h2 hv
        subst h1 h2 hv
        exact ⟨hget, rfl, rfl, trivial⟩
      obtain ⟨_, its, rv, o, h1, h2, n, h3⟩ := (show ObjOk X.prog X.w H s.heap tp (.tup cs) from I.hok tp _ hT)
      have e3 := ClsV.all k rv
      subst e3
      obtain ⟨oc, od, dt, sl⟩ := o
      simp only at h2 h3
      subst h2 h3
      exact PySem.W.kia_tup (PySem.W.handS_kitx_exc C.hg C.hk C.hs C.hd C.ha C.hn C.ht C.hm) I.kIn J h1 e (fun z => nomatch z) fun tk => ⟨.bl b, H, I.kept (t' := tk) fun _ _ z => z, rfl, q⟩
theorem kit_self {K : PySem.W.Frag} {t : Value} (h : (t == t) = true := by simp) : PySem.W.kitOne K t t = some true := by
  unfold PySem.W.kitOne
  rw [if_pos h]
/-- what a class must say, so that isinstance asks its objects rightly -/
structure IsiC (K : PySem.W.Frag) (C : Addr) : Prop where
  ha : PySem.W.findIn K (.ref C) "__class__" = some (some (.builtin "object.__class__"))
  hn : PySem.W.specialIn K (.builtin "object.__class__") "__get__" = some (some (.builtin "getset_descriptor.__get__"))
  ht : PySem.W.takesIn K (.builtin "object.__class__") = some true
  hm : PySem.W.mroIn K C (.type "object") = some true
theorem tyX_ins {K : PySem.W.Frag} {H : Hp} {a C dx : Addr} {fs : List (Str × V)} (e : H a = some (.ins C dx fs)) (cl : Cls K C) (c : IsiC K C) : TyX K H (.ref a) (.ref C) := .base (.ins e cl c.ha c.hn c.ht c.hm)
end Vx
namespace Vx
open PySem PySem.Spec PyProof.Rows L2
theorem op_notTrue {X : Cx} : OpR X (compareOp .IsNot) (fun x y H Q => ∃ b : Bool, x = .bl b ∧ y = .bl true ∧ Q (.bl (!b)) H) := by
  intro pins s σ H x y v u Q I rx ry h
  obtain ⟨b, rfl, rfl, q⟩ := h
  cases rx
  cases ry
  show wpAny (model X.prog X.w) X.A (compareOp .IsNot (.bool b) (.bool true)) (EP X pins σ Q) X.xe s
  have e : compareOp .IsNot (.bool b) (.bool true) = pure (.bool (!b)) := by cases b <;> rfl
  rw [e]
  exact wpAny_pure ⟨.bl (!b), H, I, rfl, q⟩
end Vx
/-! # lists stored into trees -/
namespace Vx
open PySem PySem.Spec PyProof.Rows L2
section
variable {G H I : Hp} {α : Type} {f : α → Dt} {L : List Addr} {vs : List V} {xs : List α}
theorem OwAll.set {L1 : List Addr} {v : V} {d : Dt} (h : Ow G H L1 v d) : ∀ {L : List Addr} {vs : List V} {ds : List Dt} (i : Nat), i < ds.length → OwAll G H L vs ds → (∀ b ∈ L1, b ∉ L) → ∃ L', (∀ b ∈ L', b ∈ L ++ L1) ∧ OwAll G H L' (vs.set i v) (ds.set i d)
  | _, _, _, _, hi, .nil, _ => absurd hi (Nat.not_lt_zero _)
  | _, _, _, 0, _, .cons (L1 := La) (L2 := Lb) a r n, nf => by
    refine ⟨L1 ++ Lb, fun b hb => ?_, .cons h r fun b hb q => nf b hb (List.mem_append_right _ q)⟩
    rcases List.mem_append.mp hb with q | q
    · exact List.mem_append_right _ q
    · exact List.mem_append_left _ (List.mem_append_right _ q)
  | _, _, _, i + 1, hi, .cons (L1 := La) (L2 := Lb) a r n, nf => by
    obtain ⟨L', s, w⟩ := OwAll.set h i (Nat.lt_of_succ_lt_succ hi) r fun b hb q => nf b hb (List.mem_append_right _ q)
    refine ⟨La ++ L', fun b hb => ?_, .cons a w fun b hb q => ?_⟩
    · rcases List.mem_append.mp hb with q | q
      · exact List.mem_append_left _ (List.mem_append_left _ q)
      · rcases List.mem_append.mp (s b q) with z | z
        · exact List.mem_append_left _ (List.mem_append_right _ z)
        · exact List.mem_append_right _ z
    · rcases List.mem_append.mp (s b q) with z | z
      · exact n b hb z
      · exact nf b z (List.mem_append_left _ hb)
theorem ixN_len {k : Int} (e : vs.length = xs.length) (h : -(xs.length : Int) ≤ k ∧ k < xs.length) : ixN vs.length k = some ((ixN vs.length k).getD 0) := by
  rw [e]
  obtain ⟨j, hj, _⟩ := ixN_some h
  rw [hj]
  rfl
theorem OwAll.setM {k : Int} {L1 : List Addr} {v : V} {y : α} (w : OwAll G H L vs (xs.map f)) (h : -(xs.length : Int) ≤ k ∧ k < xs.length) (ow : Ow G H L1 v (f y)) (n : ∀ b ∈ L1, b ∉ L) :
    ∃ L', (∀ b ∈ L', b ∈ L ++ L1) ∧ OwAll G H L' (vs.set ((ixN vs.length k).getD 0) v) ((setL xs k y).map f) := by
  obtain ⟨j, e, hj⟩ := ixN_some h
  obtain ⟨L', s, z⟩ := OwAll.set ow j (by simpa using hj) w n
  refine ⟨L', s, ?_⟩
  unfold setL
  rw [w.lenM, e, List.map_set]
  exact z
end
theorem ne_of_len {α : Type} {xs : List α} (h : xs.length = 4 ∨ xs.length = 6 ∨ xs.length = 8) : xs ≠ [] := by
  rintro rfl
  simp at h
end Vx
namespace Vx
open PySem PySem.Spec PyProof.Rows L2
/-! ### written dicts of ints -/
inductive EI : List (Int × Int) → List DictEntry → Prop
  | nil : EI [] []
  | cons {k v : Int} {t u : Tok} {r : List (Int × Int)} {es : List DictEntry} (h : EI r es) : EI ((k, v) :: r) (⟨hashInt k, .int k t, .int v u⟩ :: es)
def lookI : List (Int × Int) → Int → Option Int
  | [], _ => none
  | (k, v) :: r, i => if i = k then some v else lookI r i
def KDI (K : PySem.W.Frag) (a : Addr) (kvs : List (Int × Int)) : Prop :=
  ∃ es n, K.lookup a = some ⟨.type "dict", none, .dict es n, #[]⟩ ∧ (a == sysModules) = false ∧ EI kvs es.toList
theorem lookI_mem {kvs : List (Int × Int)} {i : Int} : (lookI kvs i).isSome = decide (i ∈ kvs.map (·.1)) := by
  induction kvs with
  | nil => rfl
  | cons p r ih =>
    obtain ⟨k, v⟩ := p
    unfold lookI
    by_cases q : i = k
    · rw [if_pos q]; simp [q]
    · rw [if_neg q, ih]; simp [q]
theorem EI.find {i : Int} : ∀ {kvs : List (Int × Int)} {es : List DictEntry}, EI kvs es → match lookI kvs i with
    | some v => ∃ u, (es.find? fun e => keyIs (.inl i) e.key).map (·.val) = some (.int v u)
    | none => (es.find? fun e => keyIs (.inl i) e.key).map (·.val) = none
  | _, _, .nil => rfl
  | _, _, .cons (k := k) (v := v) (t := t) (u := u) (r := r) (es := es) h => by
    have ih := EI.find (i := i) h
    unfold lookI
    by_cases q : i = k
    · subst q
      rw [if_pos rfl]
      refine ⟨u, ?_⟩
      rw [List.find?_cons_of_pos (by exact keyIs_int i t)]
      rfl
    · rw [if_neg q]
      have e : ¬ (keyIs (.inl i) (Value.int k t) = true) := by
        intro z
        obtain ⟨t', e'⟩ := Value.isInt_shape (k := i) (v := Value.int k t) z
        injection e' with e1 _
        exact q e1.symm
      rw [List.find?_cons_of_neg (by exact e)]
      exact ih
theorem EI.keys {P : Program} {w : World} : ∀ {kvs : List (Int × Int)} {es : List DictEntry}, EI kvs es → ∀ e ∈ es, ∃ k, (mixKind P w).is k e.key = true ∧ e.hash = (mixKind P w).hash k
  | _, _, .nil, e, he => nomatch he
  | _, _, .cons (k := k) (t := t) h, e, he => by
    rcases List.mem_cons.mp he with rfl | he
    · exact ⟨.inl k, keyIs_int k t, rfl⟩
    · exact EI.keys h e he
section
variable {X : Cx} {K : PySem.W.Frag}
theorem KDI.map {d : Addr} {kvs : List (Int × Int)} {pins : List (Addr × Obj)} {σ : L2.St} {H : Hp} {s : Shared} (D : KDI X.K d kvs) (I : Inv X pins σ H s) : (d == sysModules) = false ∧ ∃ f, s.heap.MapOf (mixKind X.prog X.w) d f ∧ ∀ i, match lookI kvs i with
    | some v => ∃ u, f (.inl i) = some (.int v u)
    | none => f (.inl i) = none := by
  obtain ⟨es, n, hl, hd, he⟩ := D
  refine ⟨hd, fun k => findBy keyIs es k, ⟨_, es, n, I.kIn _ _ hl, ⟨rfl, rfl, rfl⟩, rfl, fun e q => EI.keys he e (Array.mem_toList_iff.mpr q), fun _ => rfl⟩, fun i => ?_⟩
  have := EI.find (i := i) he
  have e : findBy keyIs es (.inl i) = (es.toList.find? fun e => keyIs (.inl i) e.key).map (·.val) := by
    obtain ⟨l⟩ := es
    unfold findBy
    rw [List.find?_toArray]
  show match lookI kvs i with
    | some v => ∃ u, findBy keyIs es (.inl i) = some (.int v u)
    | none => findBy keyIs es (.inl i) = none
  rw [e]
  exact this
def rInDI (K : PySem.W.Frag) : R2 := fun x y H Q => ∃ (i : Int) (d : Addr) (kvs : List (Int × Int)) (ks : List Int), x = .int i ∧ y = .ref d ∧ KDI K d kvs ∧ ks = kvs.map (·.1) ∧ Q (.bl (decide (i ∈ ks))) H
def rNotInDI (K : PySem.W.Frag) : R2 := fun x y H Q => ∃ (i : Int) (d : Addr) (kvs : List (Int × Int)) (ks : List Int), x = .int i ∧ y = .ref d ∧ KDI K d kvs ∧ ks = kvs.map (·.1) ∧ Q (.bl (!decide (i ∈ ks))) H
def rIxDI (K : PySem.W.Frag) : R2 := fun x y H Q => ∃ (d : Addr) (i v : Int) (kvs : List (Int × Int)), x = .ref d ∧ y = .int i ∧ KDI K d kvs ∧ lookI kvs i = some v ∧ Q (.int v) H
theorem op_inDI (hK : X.K = K := by rfl) : OpR X (compareOp .In) (rInDI K) := by
  subst hK
  intro pins s σ H x y v u Q I rx ry h
  obtain ⟨i, d, kvs, ks, rfl, rfl, D, rfl, q⟩ := h
  rw [← lookI_mem] at q
  obtain ⟨t, rfl⟩ := rx
  cases ry
  obtain ⟨hd, f, hm, hf⟩ := D.map I
  refine wpAny_in_of (knd := mixKind X.prog X.w) (kV_is (k := .inl i) ⟨t, rfl⟩) hd hm ?_
  have e : (f (.inl i)).isSome = (lookI kvs i).isSome := by
    have := hf i
    split at this
    · next v hv => obtain ⟨u, hu⟩ := this; rw [hu, hv]; rfl
    · next hv => rw [this, hv]; rfl
  rw [e]
  exact ⟨.bl (lookI kvs i).isSome, H, I.tok _, rfl, q⟩
theorem op_notInDI (hK : X.K = K := by rfl) : OpR X (compareOp .NotIn) (rNotInDI K) := by
  subst hK
  intro pins s σ H x y v u Q I rx ry h
  obtain ⟨i, d, kvs, ks, rfl, rfl, D, rfl, q⟩ := h
  rw [← lookI_mem] at q
  obtain ⟨t, rfl⟩ := rx
  cases ry
  obtain ⟨hd, f, hm, hf⟩ := D.map I
  refine wpAny_notIn_of (knd := mixKind X.prog X.w) (kV_is (k := .inl i) ⟨t, rfl⟩) hd hm ?_
  have e : (f (.inl i)).isSome = (lookI kvs i).isSome := by
    have := hf i
    split at this
    · next v hv => obtain ⟨u, hu⟩ := this; rw [hu, hv]; rfl
    · next hv => rw [this, hv]; rfl
  rw [e]
  exact ⟨.bl (!(lookI kvs i).isSome), H, I.tok _, rfl, q⟩
theorem ix_DI (hK : X.K = K := by rfl) : IxR X (rIxDI K) := by
  subst hK
  intro value slice pins s σ H x y v u Q I rx ry h hs
  obtain ⟨p, i, r, kvs, rfl, rfl, D, e, q⟩ := h
  obtain rfl : v = Value.ref p := rx
  obtain ⟨t, rfl⟩ := ry
  obtain ⟨hd, f, hm, hf⟩ := D.map I
  have := hf i
  rw [e] at this
  obtain ⟨u, hu⟩ := this
  exact tail_any hm.typeIs slot_dict_getitem.lookup (wpAny_getItem_of (knd := mixKind X.prog X.w) (kV_is (k := .inl i) ⟨t, rfl⟩) hm hu ⟨.int r, H, I.tok _, ⟨_, rfl⟩, q⟩) hs
end
/-- the value at a key that is there -/
def dictI (kvs : List (Int × Int)) (i : Int) : Int := (lookI kvs i).getD 0
theorem lookI_at {kvs : List (Int × Int)} {i : Int} (h : i ∈ kvs.map (·.1)) : lookI kvs i = some (dictI kvs i) := by
  have := lookI_mem (kvs := kvs) (i := i)
  rw [decide_eq_true h] at this
  unfold dictI
  cases e : lookI kvs i with
  | none => rw [e] at this; cases this
  | some v => rfl
/-! ### walks over two lists, over numbered items, backwards -/
theorem pi_enumK {X : Cx} {K : PySem.W.Frag} {e : Expr} {ta : TA} {p pos tpos : Pos} {elts : List Expr} {kk : Nat} (hg : Gl X "enumerate") (hm : X.mg "enumerate" = none) (ha : PA X [e] ta) (hK : X.K = K := by rfl) (hs : starEach [e] X.env = [(false, eval e X.env)] := by rfl) :
    PI X (.Tuple elts kk tpos) (.Call (.Name "enumerate" p) [e] [] pos) (iEnum K ta) := hK ▸ pi_enum hg hm ha hs
section
variable {K : PySem.W.Frag} {a b : Addr} {xs ys : List V} {g : TG} {tb : TS} {tt : TT} {te : TE} {D : Ends} {σ : L2.St} {H H1 : Hp} {vs : List Nat} {DD : Addr} {Qd : Hp → Prop}
theorem for_enum (Pv : Nat → L2.St → Hp → Prop) (h0 : Pv 0 σ H) (hq : ∀ i σ H, Pv i σ H → SqL K H a xs)
    (hs : ∀ (i : Nat) (y : V) (T : Addr) (σ : L2.St) (H : Hp), xs[i]? = some y → H T = none → Pv i σ H → g (.ref T) σ (upd H T (.tup [.int (i : Nat), y])) fun σ2 H2 => tb { D with nx := Pv (i + 1), ct := Pv (i + 1), bk := D.nx } σ2 H2) (hd : ∀ σ H, Pv xs.length σ H → D.nx σ H) :
    ∃ W : Nat → Nat → L2.St → Hp → Prop, (∃ m, W 0 m σ H) ∧ ∀ i m σ H, W i m σ H →
      ((Ite K a).stop i H ∧ D.nx σ H) ∨ ((Ite K a).go i H ∧ ∃ N : L2.St → Hp → Prop, (∀ σ' H', N σ' H' → ∃ m', m' < m ∧ W (i + 1) m' σ' H') ∧ ∀ v H', (Ite K a).yld i H v H' → g v σ H' fun σ2 H2 => tb { D with nx := N, ct := N, bk := D.nx } σ2 H2) := by
  refine for_it walk_enum Pv h0 (fun i σ H _ p => hq i σ H p) (fun i x σ H H' hi p y => ?_) hd
  obtain ⟨T, x1, y1, rfl, hT, rfl, h1, h2⟩ := y
  cases h1
  exact hs i y1 T σ H h2 hT p
theorem lc_enum (Pv : Nat → Hp → Prop) (h0 : Pv 0 (upd H1 DD (.lst []))) (hq : ∀ i H, i ≤ xs.length → Pv i H → SqL K H a xs)
    (hs : ∀ (i : Nat) (y : V) (T : Addr) (H : Hp), xs[i]? = some y → H T = none → Pv i H → g (.ref T) (wipe σ vs) (upd H T (.tup [.int (i : Nat), y])) fun σ2 H2 => wipe σ2 vs = wipe σ vs ∧ tt σ2 H2 fun b H3 =>
      if b = true then te σ2 H3 fun y H4 => ∃ acc, H4 DD = some (.lst acc) ∧ acc.length < sizeLine ∧ Pv (i + 1) (upd H4 DD (.lst (acc ++ [y]))) else Pv (i + 1) H3) (hd : ∀ H, Pv xs.length H → Qd H) :
    ∃ W : Nat → Nat → Hp → Prop, (∃ m, W 0 m (upd H1 DD (.lst []))) ∧ ∀ i m H, W i m H →
      ((Ite K a).stop i H ∧ Qd H) ∨ ((Ite K a).go i H ∧ ∃ Nx : Hp → Prop, (∀ H', Nx H' → ∃ m', m' < m ∧ W (i + 1) m' H') ∧ ∀ x H', (Ite K a).yld i H x H' → g x (wipe σ vs) H' fun σ2 H2 => wipe σ2 vs = wipe σ vs ∧ tt σ2 H2 fun b H3 =>
        if b = true then te σ2 H3 fun y H4 => ∃ acc, H4 DD = some (.lst acc) ∧ acc.length < sizeLine ∧ Nx (upd H4 DD (.lst (acc ++ [y]))) else Nx H3) := by
  refine lc_it walk_enum Pv h0 hq (fun i x H H' hi p y => ?_) hd
  obtain ⟨T, x1, y1, rfl, hT, rfl, h1, h2⟩ := y
  cases h1
  exact hs i y1 T H h2 hT p
/-- zip of two lists of any lengths -/
theorem for_zipM (n : Nat) (hn : n = min xs.length ys.length) (Pv : Nat → L2.St → Hp → Prop) (h0 : Pv 0 σ H) (hq : ∀ i σ H, Pv i σ H → SqL K H a xs ∧ SqL K H b ys)
    (hs : ∀ (i : Nat) (x y : V) (T : Addr) (σ : L2.St) (H : Hp), xs[i]? = some x → ys[i]? = some y → H T = none → Pv i σ H → g (.ref T) σ (upd H T (.tup [x, y])) fun σ2 H2 => tb { D with nx := Pv (i + 1), ct := Pv (i + 1), bk := D.nx } σ2 H2) (hd : ∀ σ H, Pv n σ H → D.nx σ H) :
    ∃ W : Nat → Nat → L2.St → Hp → Prop, (∃ m, W 0 m σ H) ∧ ∀ i m σ H, W i m σ H →
      ((Itz K a b).stop i H ∧ D.nx σ H) ∨ ((Itz K a b).go i H ∧ ∃ N : L2.St → Hp → Prop, (∀ σ' H', N σ' H' → ∃ m', m' < m ∧ W (i + 1) m' σ' H') ∧ ∀ v H', (Itz K a b).yld i H v H' → g v σ H' fun σ2 H2 => tb { D with nx := N, ct := N, bk := D.nx } σ2 H2) := by
  refine for_it (walk_zip hn) Pv h0 (fun i σ H _ p => hq i σ H p) (fun i x σ H H' hi p y => ?_) hd
  obtain ⟨T, x1, y1, rfl, hT, rfl, h1, h2⟩ := y
  exact hs i x1 y1 T σ H h1 h2 hT p
theorem lc_zipM (n : Nat) (hn : n = min xs.length ys.length) (Pv : Nat → Hp → Prop) (h0 : Pv 0 (upd H1 DD (.lst []))) (hq : ∀ i H, i ≤ n → Pv i H → SqL K H a xs ∧ SqL K H b ys)
    (hs : ∀ (i : Nat) (x y : V) (T : Addr) (H : Hp), xs[i]? = some x → ys[i]? = some y → H T = none → Pv i H → g (.ref T) (wipe σ vs) (upd H T (.tup [x, y])) fun σ2 H2 => wipe σ2 vs = wipe σ vs ∧ tt σ2 H2 fun b H3 =>
      if b = true then te σ2 H3 fun y H4 => ∃ acc, H4 DD = some (.lst acc) ∧ acc.length < sizeLine ∧ Pv (i + 1) (upd H4 DD (.lst (acc ++ [y]))) else Pv (i + 1) H3) (hd : ∀ H, Pv n H → Qd H) :
    ∃ W : Nat → Nat → Hp → Prop, (∃ m, W 0 m (upd H1 DD (.lst []))) ∧ ∀ i m H, W i m H →
      ((Itz K a b).stop i H ∧ Qd H) ∨ ((Itz K a b).go i H ∧ ∃ Nx : Hp → Prop, (∀ H', Nx H' → ∃ m', m' < m ∧ W (i + 1) m' H') ∧ ∀ x H', (Itz K a b).yld i H x H' → g x (wipe σ vs) H' fun σ2 H2 => wipe σ2 vs = wipe σ vs ∧ tt σ2 H2 fun b H3 =>
        if b = true then te σ2 H3 fun y H4 => ∃ acc, H4 DD = some (.lst acc) ∧ acc.length < sizeLine ∧ Nx (upd H4 DD (.lst (acc ++ [y]))) else Nx H3) := by
  refine lc_it (walk_zip hn) Pv h0 hq (fun i x H H' hi p y => ?_) hd
  obtain ⟨T, x1, y1, rfl, hT, rfl, h1, h2⟩ := y
  exact hs i x1 y1 T H h1 h2 hT p
end
theorem zipM_len {α β : Type} {xs : List α} {ys : List β} : min xs.length ys.length = (xs.zip ys).length := by rw [List.length_zip]
theorem zipM_n {α β : Type} {vs ws : List V} {xs : List α} {ys : List β} (a : vs.length = xs.length) (b : ws.length = ys.length) : min xs.length ys.length = min vs.length ws.length := by rw [a, b]
def rListTK (K : PySem.W.Frag) : List V → Hp → VK → Prop := fun xs H Q => ∃ (p : Addr) (vs : List V), xs = [.ref p] ∧ SqT K H p vs ∧ ∀ l, H l = none → Q (.ref l) (upd H l (.lst vs))
theorem call_listTK {X : Cx} {K : PySem.W.Frag} (hK : X.K = K := by rfl) : CallR X (.type "list") (rListTK K) := by
  subst hK
  intro pins s σ H xs us Q I r h
  obtain ⟨p, vs, rfl, hs, q⟩ := h
  exact call_list_of pins s σ H _ us Q I r ⟨p, _, rfl, Or.inr hs, q⟩
/-- two lists that keep step -/
inductive F2 {α β : Type} (P : α → β → Prop) : List α → List β → Prop
  | nil : F2 P [] []
  | cons {a : α} {b : β} {l : List α} {m : List β} (h : P a b) (t : F2 P l m) : F2 P (a :: l) (b :: m)
theorem F2.get {α β : Type} {P : α → β → Prop} : ∀ {l : List α} {m : List β}, F2 P l m → ∀ (j : Nat), j < l.length → ∃ a b, l[j]? = some a ∧ m[j]? = some b ∧ P a b
  | _, _, .nil, j, h => absurd h (Nat.not_lt_zero _)
  | _, _, .cons h t, 0, _ => ⟨_, _, rfl, rfl, h⟩
  | _, _, .cons h t, j + 1, hj => t.get j (Nat.lt_of_succ_lt_succ hj)
theorem F2.at {α β : Type} [Inhabited α] [Inhabited β] {P : α → β → Prop} {l : List α} {m : List β} (h : F2 P l m) (k : Int) (h0 : 0 ≤ k) (h1 : k < l.length) : P (itD l k) (itD m k) := by
  obtain ⟨j, rfl⟩ : ∃ j : Nat, k = (j : Int) := ⟨k.toNat, by omega⟩
  obtain ⟨a, b, ha, hb, p⟩ := h.get j (by omega)
  have e1 : itD l (j : Int) = a := by unfold itD; rw [atI_nat ha]; rfl
  have e2 : itD m (j : Int) = b := by unfold itD; rw [atI_nat hb]; rfl
  rw [e1, e2]
  exact p
theorem SqT.cast {K : PySem.W.Frag} {H : Hp} {a : Addr} {xs ys : List V} (h : SqT K H a xs) (e : xs = ys) : SqT K H a ys := e ▸ h
/-- enumerate(xs) -/
def enumL {α : Type} (xs : List α) : List (Int × α) := (rng 0 xs.length).zip xs
theorem enumL_len {α : Type} (xs : List α) : (enumL xs).length = xs.length := by
  unfold enumL
  rw [List.length_zip, rng_len, Nat.min_self]
theorem enumL_get {α : Type} {xs : List α} {i : Nat} {x : α} (h : xs[i]? = some x) : (enumL xs)[i]? = some ((i : Int), x) := by
  have hl : i < xs.length := (List.getElem?_eq_some_iff.mp h).1
  unfold enumL
  rw [List.getElem?_zip_eq_some]
  refine ⟨?_, h⟩
  have := rng_get (lo := 0) hl
  rw [this]
  congr 1
  omega
end Vx
namespace Vx
open PySem PySem.Spec PyProof.Rows L2
theorem wipe_get : ∀ (σ : L2.St) (vs : List Nat) (j : Nat), (wipe σ vs)[j]? = if j ∈ vs ∧ j < σ.length then some none else σ[j]?
  | σ, [], j => by simp [wipe]
  | σ, v :: vs, j => by
    unfold wipe
    by_cases e : v = j
    · subst e
      by_cases h : v < σ.length
      · rw [List.getElem?_set_self (by rw [wipe_length]; exact h), if_pos ⟨List.mem_cons_self, h⟩]
      · rw [if_neg (fun z => h z.2), List.getElem?_eq_none (by rw [List.length_set, wipe_length]; omega), List.getElem?_eq_none (by omega)]
    · rw [List.getElem?_set_ne e, wipe_get σ vs j]
      have : (j ∈ v :: vs ∧ j < σ.length) ↔ (j ∈ vs ∧ j < σ.length) := by
        constructor
        · rintro ⟨h1, h2⟩
          rcases List.mem_cons.mp h1 with rfl | h1
          · exact absurd rfl e
          · exact ⟨h1, h2⟩
        · rintro ⟨h1, h2⟩
          exact ⟨List.mem_cons_of_mem _ h1, h2⟩
      by_cases q : j ∈ vs ∧ j < σ.length
      · rw [if_pos q, if_pos (this.mpr q)]
      · rw [if_neg q, if_neg (fun z => q (this.mp z))]
theorem wipe_wipe {σ : L2.St} {vs : List Nat} : wipe (wipe σ vs) vs = wipe σ vs := by
  apply List.ext_getElem?
  intro j
  rw [wipe_get (wipe σ vs), wipe_length]
  by_cases q : j ∈ vs ∧ j < σ.length
  · rw [if_pos q, wipe_get, if_pos q]
  · rw [if_neg q]
theorem wipe_set {σ : L2.St} {vs : List Nat} {v : Nat} {x : Option V} (h : v ∈ vs) : wipe (σ.set v x) vs = wipe σ vs := by
  apply List.ext_getElem?
  intro j
  rw [wipe_get, wipe_get, List.length_set]
  by_cases q : j ∈ vs ∧ j < σ.length
  · rw [if_pos q, if_pos q]
  · rw [if_neg q, if_neg q]
    by_cases e : v = j
    · subst e
      have hl : ¬ v < σ.length := fun z => q ⟨h, z⟩
      rw [List.getElem?_eq_none (by rw [List.length_set]; omega), List.getElem?_eq_none (by omega)]
    · rw [List.getElem?_set_ne e]
/-- a comprehension over a step range -/
theorem lc_rangeC {lo c : Int} {n : Nat} {g : TG} {tt : TT} {te : TE} {vs : List Nat} {σ : L2.St} {H1 : Hp} {D : Addr} {Qd : Hp → Prop} (Pv : Nat → Hp → Prop) (h0 : Pv 0 (upd H1 D (.lst [])))
    (hs : ∀ i H, i < n → Pv i H → g (.int (lo + (i : Nat) * c)) (wipe σ vs) H fun σ2 H2 => wipe σ2 vs = wipe σ vs ∧ tt σ2 H2 fun b H3 =>
      if b = true then te σ2 H3 fun y H4 => ∃ acc, H4 D = some (.lst acc) ∧ acc.length < sizeLine ∧ Pv (i + 1) (upd H4 D (.lst (acc ++ [y]))) else Pv (i + 1) H3) (hd : ∀ H, Pv n H → Qd H) :
    ∃ W : Nat → Nat → Hp → Prop, (∃ m, W 0 m (upd H1 D (.lst []))) ∧ ∀ i m H, W i m H →
      ((Itc lo c n).stop i H ∧ Qd H) ∨ ((Itc lo c n).go i H ∧ ∃ Nx : Hp → Prop, (∀ H', Nx H' → ∃ m', m' < m ∧ W (i + 1) m' H') ∧ ∀ x H', (Itc lo c n).yld i H x H' → g x (wipe σ vs) H' fun σ2 H2 => wipe σ2 vs = wipe σ vs ∧ tt σ2 H2 fun b H3 =>
        if b = true then te σ2 H3 fun y H4 => ∃ acc, H4 D = some (.lst acc) ∧ acc.length < sizeLine ∧ Nx (upd H4 D (.lst (acc ++ [y]))) else Nx H3) := by
  refine ⟨fun i m H => m = n - i ∧ i ≤ n ∧ Pv i H, ⟨n, by simp, Nat.zero_le _, h0⟩, ?_⟩
  rintro i m H ⟨rfl, hi, p⟩
  rcases Nat.lt_or_ge i n with hlt | hge
  · refine .inr ⟨hlt, Pv (i + 1), fun H' p' => ⟨n - (i + 1), by omega, rfl, hlt, p'⟩, fun x H' y => ?_⟩
    obtain ⟨e, y⟩ := y
    subst e y
    exact hs i _ hlt p
  · cases Nat.le_antisymm hi hge
    exact .inl ⟨Nat.le_refl _, hd H p⟩

/-! ### reversed(list of ints), any(list of ints) -/
theorem pi_revK {X : Cx} {K : PySem.W.Frag} {tg : Expr} {e : Expr} {ta : TA} {p pos : Pos} (hg : Gl X "reversed") (hm : X.mg "reversed" = none) (ha : PA X [e] ta) (hK : X.K = K := by rfl) (hs : starEach [e] X.env = [(false, eval e X.env)] := by rfl) :
    PI X tg (.Call (.Name "reversed" p) [e] [] pos) (iRev K ta) := hK ▸ pi_reversed hg hm ha hs
theorem for_revI {K : PySem.W.Frag} {a : Addr} {xs : List Int} {g : TG} {tb : TS} {D : Ends} {σ : L2.St} {H : Hp} (Pv : Nat → L2.St → Hp → Prop) (h0 : Pv 0 σ H) (hl : ∀ i σ H, i ≤ (xs.reverse.map V.int).length → Pv i σ H → SqL K H a (xs.map V.int))
    (hs : ∀ i x σ H, (xs.reverse.map V.int)[i]? = some x → Pv i σ H → g x σ H fun σ2 H2 => tb { D with nx := Pv (i + 1), ct := Pv (i + 1), bk := D.nx } σ2 H2) (hd : ∀ σ H, Pv (xs.reverse.map V.int).length σ H → D.nx σ H) :
    ∃ W : Nat → Nat → L2.St → Hp → Prop, (∃ m, W 0 m σ H) ∧ ∀ i m σ H, W i m σ H →
      ((Itv K a (xs.map V.int).length).stop i H ∧ D.nx σ H) ∨ ((Itv K a (xs.map V.int).length).go i H ∧ ∃ N : L2.St → Hp → Prop, (∀ σ' H', N σ' H' → ∃ m', m' < m ∧ W (i + 1) m' σ' H') ∧ ∀ x H', (Itv K a (xs.map V.int).length).yld i H x H' → g x σ H' fun σ2 H2 => tb { D with nx := N, ct := N, bk := D.nx } σ2 H2) := by
  have en : (xs.reverse.map V.int).length = (xs.map V.int).length := by rw [List.length_map, List.length_map, List.length_reverse]
  rw [en] at hl hd
  refine for_it walk_rev Pv h0 hl (fun i x σ H H' hi p y => ?_) hd
  obtain ⟨rfl, hx⟩ := y
  refine hs i x σ _ ?_ p
  rw [List.map_reverse, List.getElem?_reverse hi]
  exact hx
theorem ints_get : ∀ {ns : List Int} {us : List Value} {i : Nat} {v : Value}, IntsAre us ns → us[i]? = some v → ∃ t, v = .int (ns.getD i 0) t := by
  intro ns us i v h
  induction h generalizing i with
  | nil => intro z; simp at z
  | cons n t _ ih =>
    intro z
    cases i with
    | zero => simp at z; exact ⟨t, by rw [← z]; rfl⟩
    | succ i => exact ih (by simpa using z)
theorem any_rangeI : ∀ ns : List Int, (List.range ns.length).any (fun i => ns.getD i 0 != 0) = ns.any (fun x => x != 0)
  | [] => rfl
  | b :: bs => by
    rw [List.length_cons, List.range_succ_eq_map, List.any_cons, List.any_map, List.any_cons, ← any_rangeI bs]
    all_goals rfl
theorem ints_len : ∀ {ns : List Int} {us : List Value}, IntsAre us ns → us.length = ns.length := by
  intro ns us h
  induction h with
  | nil => rfl
  | cons _ _ _ ih => simp [ih]
def rAnyI (K : PySem.W.Frag) : List V → Hp → VK → Prop := fun vs H Q => ∃ (a : Addr) (ns : List Int), vs = [V.ref a] ∧ SqL K H a (ns.map V.int) ∧ Q (.bl (ns.any fun x => x != 0)) H
theorem cr_anyI {X : Cx} (hc : X.calm = true) : CallR X (.builtin "any") (rAnyI X.K) := by
  intro pins s σ H vs us Q I r h
  obtain ⟨a, ns, rfl, hs, q⟩ := h
  obtain ⟨its, rv, hl, _⟩ := I.list hs
  rw [Vals.ref1 r]
  have hb := rv.ints
  refine call_any_walk (iter_any hl.isList fun s₂ e2 st hne => ?_)
  subst e2
  have ht : TruthOf X.prog X.w X.A.in1 (fun i v => its.toArray[i]? = some v) (fun i => ns.getD i 0 != 0) := fun i v s Q E hv hq => by
    obtain ⟨t, rfl⟩ := ints_get hb (by simpa using hv)
    exact PyProof.Rows.truthy_int hq
  refine ⟨_, _, _, _, _, _, _, rfl, Walks.list (A := X.A.in1) (I.ok.hd hc) _ a hne its.toArray, st, ht, fun h' tk hk => ?_⟩
  refine ⟨.bl _, H, I.kept fun b o eo => hk b o (fun hmem => ?_) (Heap.get?_push_of_some _ eo), ?_, q⟩
  · rcases List.mem_cons.mp hmem with e1 | hmem
    · exact absurd (e1 ▸ Heap.lt_size eo) (Nat.lt_irrefl _)
    · cases hmem
  · show Value.bool _ = Value.bool _
    rw [← any_rangeI, List.size_toArray, ints_len hb]
theorem cr_anyIK {X : Cx} {K : PySem.W.Frag} (hc : X.calm = true) (hK : X.K = K := by rfl) : CallR X (.builtin "any") (rAnyI K) := hK ▸ cr_anyI hc
/-- an item of a list of data stored anew -/
theorem RpAll.setM {α : Type} {f : α → PyData} {G : Hp} {vs : List V} {xs : List α} {k : Int} {v : V} {y : α} (d : RpAll G vs (xs.map f)) (r : Rp G v (f y)) : RpAll G (vs.set ((ixN vs.length k).getD 0) v) ((setL xs k y).map f) := by
  have e : vs.length = xs.length := by rw [d.len, List.length_map]
  unfold setL
  rw [List.map_set, e]
  exact RpAll.set r _ d
end Vx
/-! # data of any shape: None beside data, tuples of several shapes -/
namespace Vx
open PySem PySem.Spec PyProof.Rows L2
def encD (d : PyData) : PyData := d
def encN (_ : Unit) : PyData := .none
def encT1 {α : Type} (f : α → PyData) (x : α) : PyData := .tuple [f x]
instance instInhD : Inhabited PyData := ⟨.none⟩
/-- a known shape: what is laid, what is read back, whether the data has the shape -/
structure Cst (α : Type) where
  enc : α → PyData
  dec : PyData → α
  ok : PyData → Bool
  h : ∀ d, ok d = true → enc (dec d) = d
  oke : ∀ x, ok (enc x) = true
  de : ∀ x, dec (enc x) = x
def cI : Cst Int := ⟨PyData.int, fun d => match d with | .int i => i | _ => 0, fun d => match d with | .int _ => true | _ => false, fun d h => (by cases d <;> first | rfl | (cases h)), fun _ => rfl, fun _ => rfl⟩
def cB : Cst Bool := ⟨PyData.bool, fun d => match d with | .bool i => i | _ => false, fun d => match d with | .bool _ => true | _ => false, fun d h => (by cases d <;> first | rfl | (cases h)), fun _ => rfl, fun _ => rfl⟩
def cS : Cst Str := ⟨PyData.str, fun d => match d with | .str i => i | _ => "", fun d => match d with | .str _ => true | _ => false, fun d h => (by cases d <;> first | rfl | (cases h)), fun _ => rfl, fun _ => rfl⟩
def cN : Cst Unit := ⟨encN, fun _ => (), fun d => match d with | .none => true | _ => false, fun d h => (by cases d <;> first | rfl | (cases h)), fun _ => rfl, fun _ => rfl⟩
def cD : Cst PyData := ⟨encD, fun d => d, fun _ => true, fun _ _ => rfl, fun _ => rfl, fun _ => rfl⟩
theorem map_dec {α : Type} (c : Cst α) : ∀ xs : List PyData, xs.all c.ok = true → (xs.map c.dec).map c.enc = xs
  | [], _ => rfl
  | x :: xs, h => by
    rw [List.all_cons, Bool.and_eq_true] at h
    rw [List.map_cons, List.map_cons, c.h x h.1, map_dec c xs h.2]
def cL {α : Type} (c : Cst α) : Cst (List α) where
  enc := encL c.enc
  dec := fun d => match d with | .list xs => xs.map c.dec | _ => []
  ok := fun d => match d with | .list xs => xs.all c.ok | _ => false
  h := fun d h => by
    cases d with
    | list xs => exact congrArg PyData.list (map_dec c xs h)
    | _ => cases h
  oke := fun x => by
    show (x.map c.enc).all c.ok = true
    rw [List.all_map, List.all_eq_true]
    exact fun a _ => c.oke a
  de := fun x => by
    show (x.map c.enc).map c.dec = x
    rw [List.map_map]
    have e : c.dec ∘ c.enc = id := funext c.de
    rw [e, List.map_id]
def cT1 {α : Type} (a : Cst α) : Cst α where
  enc := encT1 a.enc
  dec := fun d => match d with | .tuple [x] => a.dec x | _ => a.dec .none
  ok := fun d => match d with | .tuple [x] => a.ok x | _ => false
  h := fun d h => by
    split at h
    · next x => exact congrArg (fun z => PyData.tuple [z]) (a.h x h)
    · cases h
  oke := fun x => a.oke x
  de := fun x => a.de x
def cT2 {α β : Type} (a : Cst α) (b : Cst β) : Cst (α × β) where
  enc := encT2 a.enc b.enc
  dec := fun d => match d with | .tuple [x, y] => (a.dec x, b.dec y) | _ => (a.dec .none, b.dec .none)
  ok := fun d => match d with | .tuple [x, y] => a.ok x && b.ok y | _ => false
  h := fun d h => by
    split at h
    · next x y =>
      rw [Bool.and_eq_true] at h
      show PyData.tuple [a.enc (a.dec x), b.enc (b.dec y)] = _
      rw [a.h x h.1, b.h y h.2]
    · cases h
  oke := fun x => by show (a.ok (a.enc x.1) && b.ok (b.enc x.2)) = true; rw [a.oke, b.oke]; rfl
  de := fun x => by show (a.dec (a.enc x.1), b.dec (b.enc x.2)) = x; rw [a.de, b.de]
def cT3 {α β γ : Type} (a : Cst α) (b : Cst β) (c : Cst γ) : Cst (α × β × γ) where
  enc := encT3 a.enc b.enc c.enc
  dec := fun d => match d with | .tuple [x, y, z] => (a.dec x, b.dec y, c.dec z) | _ => (a.dec .none, b.dec .none, c.dec .none)
  ok := fun d => match d with | .tuple [x, y, z] => a.ok x && b.ok y && c.ok z | _ => false
  h := fun d h => by
    split at h
    · next x y z =>
      simp only [Bool.and_eq_true] at h
      show PyData.tuple [a.enc (a.dec x), b.enc (b.dec y), c.enc (c.dec z)] = _
      rw [a.h x h.1.1, b.h y h.1.2, c.h z h.2]
    · cases h
  oke := fun x => by show (a.ok (a.enc x.1) && b.ok (b.enc x.2.1) && c.ok (c.enc x.2.2)) = true; rw [a.oke, b.oke, c.oke]; rfl
  de := fun x => by show (a.dec (a.enc x.1), b.dec (b.enc x.2.1), c.dec (c.enc x.2.2)) = x; rw [a.de, b.de, c.de]
def cT4 {α β γ δ : Type} (a : Cst α) (b : Cst β) (c : Cst γ) (e : Cst δ) : Cst (α × β × γ × δ) where
  enc := encT4 a.enc b.enc c.enc e.enc
  dec := fun d => match d with | .tuple [x, y, z, w] => (a.dec x, b.dec y, c.dec z, e.dec w) | _ => (a.dec .none, b.dec .none, c.dec .none, e.dec .none)
  ok := fun d => match d with | .tuple [x, y, z, w] => a.ok x && b.ok y && c.ok z && e.ok w | _ => false
  h := fun d h => by
    split at h
    · next x y z w =>
      simp only [Bool.and_eq_true] at h
      show PyData.tuple [a.enc (a.dec x), b.enc (b.dec y), c.enc (c.dec z), e.enc (e.dec w)] = _
      rw [a.h x h.1.1.1, b.h y h.1.1.2, c.h z h.1.2, e.h w h.2]
    · cases h
  oke := fun x => by show (a.ok (a.enc x.1) && b.ok (b.enc x.2.1) && c.ok (c.enc x.2.2.1) && e.ok (e.enc x.2.2.2)) = true; rw [a.oke, b.oke, c.oke, e.oke]; rfl
  de := fun x => by show (a.dec (a.enc x.1), b.dec (b.enc x.2.1), c.dec (c.enc x.2.2.1), e.dec (e.enc x.2.2.2)) = x; rw [a.de, b.de, c.de, e.de]
section
variable {H : Hp} {v : V} {d : PyData}
theorem rp_dcast {α : Type} (c : Cst α) (g : c.ok d = true) (r : Rp H v d) : Rp H v (c.enc (c.dec d)) := by rw [c.h d g]; exact r
def dNone : PyData → Bool
  | .none => true
  | _ => false
def dSeq : PyData → Bool
  | .list _ => true
  | .tuple _ => true
  | _ => false
def dTup : PyData → Bool
  | .tuple _ => true
  | _ => false
def dLst : PyData → Bool
  | .list _ => true
  | _ => false
def dInt : PyData → Bool
  | .int _ => true
  | .bool _ => true
  | _ => false
def dBool : PyData → Bool
  | .bool _ => true
  | _ => false
def dGet : PyData → Nat → PyData
  | .tuple xs, k => xs.getD k .none
  | .list xs, k => xs.getD k .none
  | _, _ => .none
def dHasT : PyData → Nat → Bool
  | .tuple xs, k => decide (k < xs.length)
  | _, _ => false
theorem rp_ref (g : dSeq d = true) (r : Rp H v d) : ∃ a, v = .ref a := by
  cases r <;> first | exact ⟨_, rfl⟩ | cases g
theorem rp_dget {k : Nat} (g : dHasT d k = true) (r : Rp H v d) : ∃ a vs u, v = .ref a ∧ H a = some (.tup vs) ∧ atI vs (k : Int) = some u ∧ Rp H u (dGet d k) := by
  cases r with
  | tup h rs =>
    rename_i ds
    have hk : k < ds.length := of_decide_eq_true g
    obtain ⟨u, h1, h2⟩ := RpAll.at' (i := k) (d := ds[k]) rs (List.getElem?_eq_getElem hk)
    refine ⟨_, _, u, rfl, h, ?_, ?_⟩
    · exact atI_nat h1
    · show Rp H u (ds.getD k .none)
      rw [List.getD_eq_getElem?_getD, List.getElem?_eq_getElem hk]
      exact h2
  | _ => cases g
theorem rp_non {x : Unit} (r : Rp H v (encN x)) : v = .non := by unfold encN at r; cases r; rfl
theorem rp_tup1 {α : Type} {f : α → PyData} {x : α} (r : Rp H v (encT1 f x)) : ∃ a v1, v = .ref a ∧ H a = some (.tup [v1]) ∧ Rp H v1 (f x) := by
  unfold encT1 at r
  cases r with
  | tup h1 h2 =>
    cases h2 with
    | cons r1 t => cases t; exact ⟨_, _, rfl, h1, r1⟩
theorem rp_mk1 {α : Type} {f : α → PyData} {a : Addr} {v1 : V} {x : α} (h1 : H a = some (.tup [v1])) (r1 : Rp H v1 (f x)) : Rp H (.ref a) (encT1 f x) := .tup h1 (.cons r1 .nil)
theorem rp_none_iff (r : Rp H v d) : decide (v = V.non) = dNone d := by
  cases r <;> simp [dNone]
end
section
variable {X : Cx}
def rIsND : R2 := fun x y H Q => ∃ d, y = .non ∧ Rp H x d ∧ Q (.bl (dNone d)) H
def rNotND : R2 := fun x y H Q => ∃ d, y = .non ∧ Rp H x d ∧ Q (.bl (!dNone d)) H
theorem op_isND : OpR X (compareOp .Is) rIsND := by
  intro pins s σ H x y v u Q I rx ry h
  obtain ⟨d, e, r, q⟩ := h
  exact op_isN pins s σ H x y v u Q I rx ry ⟨e, by rw [rp_none_iff r]; exact q⟩
theorem op_notND : OpR X (compareOp .IsNot) rNotND := by
  intro pins s σ H x y v u Q I rx ry h
  obtain ⟨d, e, r, q⟩ := h
  exact op_notN pins s σ H x y v u Q I rx ry ⟨e, by rw [rp_none_iff r]; exact q⟩
def rEqD : R2 := fun x y H Q => ∃ a b : PyData, Rp H x a ∧ Rp H y b ∧ (SeqAt.shaped a = true ∧ SeqAt.shaped b = true) ∧ Q (.bl (PyData.eqv a b)) H
def rNeD : R2 := fun x y H Q => ∃ a b : PyData, Rp H x a ∧ Rp H y b ∧ (SeqAt.shaped a = true ∧ SeqAt.shaped b = true) ∧ Q (.bl (!PyData.eqv a b)) H
theorem op_eqDD (hu : X.A.units + 64 < cLine) : OpR X (compareOp .Eq) rEqD := by
  intro pins s σ H x y v u Q I rx ry h
  obtain ⟨a, b, h1, h2, ⟨s1, s2⟩, q⟩ := h
  exact op_eqD hu pins s σ H _ _ v u Q I rx ry ⟨_, _, h1.dp, h2.dp, s1, s2, q⟩
theorem op_neDD (hu : X.A.units + 64 < cLine) : OpR X (compareOp .NotEq) rNeD := by
  intro pins s σ H x y v u Q I rx ry h
  obtain ⟨a, b, h1, h2, ⟨s1, s2⟩, q⟩ := h
  exact op_neD hu pins s σ H _ _ v u Q I rx ry ⟨_, _, h1.dp, h2.dp, s1, s2, q⟩
def dTy : PyData → String
  | .none => "NoneType"
  | .bool _ => "bool"
  | .int _ => "int"
  | .str _ => "str"
  | .list _ => "list"
  | .tuple _ => "tuple"
  | .dict _ => "dict"
theorem Rp.tyX {K : PySem.W.Frag} {H : Hp} {v : V} {d : PyData} (r : Rp H v d) : TyX K H v (.type (dTy d)) := by
  cases r with
  | non => exact .base .non
  | bl b => exact .base (.bl b)
  | int i => exact .base (.int i)
  | str x => exact .base (.str x)
  | lst h _ => exact .base (.lst h)
  | tup h _ => exact .base (.tup h)
def rIsiD (T : String) (f : PyData → Bool) : List V → Hp → VK → Prop := fun xs H Q => ∃ (x : V) (d : PyData), xs = [x, .ty T] ∧ Rp H x d ∧ Q (.bl (f d)) H
theorem call_isiD {T : String} {f : PyData → Bool} (hT : ∀ d, kitB (dTy d) T = some (f d)) : CallR X (.builtin "isinstance") (rIsiD T f) := by
  intro pins s σ H xs us Q I r h
  obtain ⟨x, d, rfl, rx, q⟩ := h
  exact call_isi pins s σ H _ us Q I r ⟨x, .ty T, _, _, _, rfl, .ty T, rx.tyX, kit_ty (hT d), q⟩
theorem kit_dTup (d : PyData) : kitB (dTy d) "tuple" = some (dTup d) := by
  cases d with
  | none => exact (by decide +kernel : kitB "NoneType" "tuple" = some false)
  | bool _ => exact (by decide +kernel : kitB "bool" "tuple" = some false)
  | int _ => exact (by decide +kernel : kitB "int" "tuple" = some false)
  | str _ => exact (by decide +kernel : kitB "str" "tuple" = some false)
  | list _ => exact (by decide +kernel : kitB "list" "tuple" = some false)
  | tuple _ => exact (by decide +kernel : kitB "tuple" "tuple" = some true)
  | dict _ => exact (by decide +kernel : kitB "dict" "tuple" = some false)
theorem kit_dLst (d : PyData) : kitB (dTy d) "list" = some (dLst d) := by
  cases d with
  | none => exact (by decide +kernel : kitB "NoneType" "list" = some false)
  | bool _ => exact (by decide +kernel : kitB "bool" "list" = some false)
  | int _ => exact (by decide +kernel : kitB "int" "list" = some false)
  | str _ => exact (by decide +kernel : kitB "str" "list" = some false)
  | list _ => exact (by decide +kernel : kitB "list" "list" = some true)
  | tuple _ => exact (by decide +kernel : kitB "tuple" "list" = some false)
  | dict _ => exact (by decide +kernel : kitB "dict" "list" = some false)
theorem kit_dInt (d : PyData) : kitB (dTy d) "int" = some (dInt d) := by
  cases d with
  | none => exact (by decide +kernel : kitB "NoneType" "int" = some false)
  | bool _ => exact (by decide +kernel : kitB "bool" "int" = some true)
  | int _ => exact (by decide +kernel : kitB "int" "int" = some true)
  | str _ => exact (by decide +kernel : kitB "str" "int" = some false)
  | list _ => exact (by decide +kernel : kitB "list" "int" = some false)
  | tuple _ => exact (by decide +kernel : kitB "tuple" "int" = some false)
  | dict _ => exact (by decide +kernel : kitB "dict" "int" = some false)
theorem kit_dBool (d : PyData) : kitB (dTy d) "bool" = some (dBool d) := by
  cases d with
  | none => exact (by decide +kernel : kitB "NoneType" "bool" = some false)
  | bool _ => exact (by decide +kernel : kitB "bool" "bool" = some true)
  | int _ => exact (by decide +kernel : kitB "int" "bool" = some false)
  | str _ => exact (by decide +kernel : kitB "str" "bool" = some false)
  | list _ => exact (by decide +kernel : kitB "list" "bool" = some false)
  | tuple _ => exact (by decide +kernel : kitB "tuple" "bool" = some false)
  | dict _ => exact (by decide +kernel : kitB "dict" "bool" = some false)
end
/-! ### written dicts of numbers with text keys -/
inductive ES (P : Params) : List (Str × Int) → List DictEntry → Prop
  | nil : ES P [] []
  | cons {h k v} {t u : Tok} {r : List (Str × Int)} {es : List DictEntry} (e : h = PyData.keyHash P k) (x : ES P r es) : ES P ((k, v) :: r) (⟨h, .str k t, .int v u⟩ :: es)
def lookS : List (Str × Int) → Str → Option Int
  | [], _ => none
  | (k, v) :: r, i => if k = i then some v else lookS r i
def KDS (K : PySem.W.Frag) (w : World) (a : Addr) (kvs : List (Str × Int)) : Prop :=
  ∃ es n, K.lookup a = some ⟨.type "dict", none, .dict es n, #[]⟩ ∧ ES w.params kvs es.toList
theorem ES.lit {P : Params} : ∀ {kvs : List (Str × Int)} {es : List DictEntry}, ES P kvs es → PySem.W.KeysLit P es
  | _, _, .nil => trivial
  | _, _, .cons e x => ⟨⟨_, _, rfl, e⟩, ES.lit x⟩
theorem ES.find {P : Params} {i : Str} {v : Int} : ∀ {kvs : List (Str × Int)} {es : List DictEntry}, ES P kvs es → lookS kvs i = some v → ∃ e u, es.find? (fun e => e.key.isStr i) = some e ∧ e.val = .int v u
  | _, _, .nil, h => by cases h
  | _, _, .cons (k := k) (u := u) e x, h => by
    unfold lookS at h
    by_cases q : k = i
    · rw [if_pos q] at h
      subst q
      cases h
      refine ⟨_, u, List.find?_cons_of_pos ?_, rfl⟩
      simp [Value.isStr]
    · rw [if_neg q] at h
      obtain ⟨e', u', h1, h2⟩ := ES.find x h
      refine ⟨e', u', ?_, h2⟩
      rw [List.find?_cons_of_neg]
      · exact h1
      · simp [Value.isStr, q]
theorem KDS.at {K : PySem.W.Frag} {w : World} {a : Addr} {kvs : List (Str × Int)} {z : Str} {v : Int} (D : KDS K w a kvs) (h : lookS kvs z = some v) : KDct K w a z (.int v) := by
  obtain ⟨es, n, hl, x⟩ := D
  obtain ⟨e, u, h1, h2⟩ := x.find h
  refine ⟨es, n, .int v u, hl, x.lit, ?_, ⟨u, rfl⟩⟩
  unfold PySem.W.nsIn
  rw [hl]
  show (match es.toList.find? (fun e => e.key.isStr z) with
      | some e => some (some e.val)
      | none => if es.toList.any (·.refKey) then none else some none) = _
  rw [h1]
  show some (some e.val) = _
  rw [h2]
def rIxDS (K : PySem.W.Frag) (w : World) : R2 := fun x y H Q => ∃ (p : Addr) (z : Str) (kvs : List (Str × Int)) (v : Int), x = .ref p ∧ y = .str z ∧ KDS K w p kvs ∧ lookS kvs z = some v ∧ Q (.int v) H
theorem ix_DS {X : Cx} {K : PySem.W.Frag} {w : World} (hK : X.K = K := by rfl) (hw : X.w = w := by rfl) : IxR X (rIxDS K w) := by
  subst hK hw
  intro value slice pins s σ H x y v u Q I rx ry h hs
  obtain ⟨p, z, kvs, r, e1, e2, D, e, q⟩ := h
  exact ix_kdict value slice pins s σ H x y v u Q I rx ry ⟨p, z, .int r, e1, e2, D.at e, q⟩ hs
def dictS (kvs : List (Str × Int)) (i : Str) : Int := (lookS kvs i).getD 0
def hasS (kvs : List (Str × Int)) (i : Str) : Bool := (lookS kvs i).isSome
theorem lookS_at {kvs : List (Str × Int)} {i : Str} (h : hasS kvs i = true) : lookS kvs i = some (dictS kvs i) := by
  unfold hasS at h
  unfold dictS
  cases e : lookS kvs i with
  | none => rw [e] at h; cases h
  | some v => rfl
/-! ### for the mathematics -/
theorem eqv_enc {α : Type} [DecidableEq α] {n : Nat} {f : α → PyData} (ok : EncOk n f) (x y : α) : PyData.eqv (f x) (f y) = decide (x = y) := ok.eqv x y
end Vx
namespace Vx
open PySem PySem.Spec PyProof.Rows L2
theorem sm_str {x : Str} (h : (reprText x).length ≤ 20) : Sm 1 0 (.str x) := ⟨by simp only [smallD, decide_eq_true_eq]; exact h, by simp [nodes], by simp [PyData.depth]⟩
theorem sm_none : Sm 1 0 (encN ()) := sm_non
theorem sm_T1 {α : Type} {f : α → PyData} {n k : Nat} {p : α} (h1 : Sm n k (f p)) : Sm (1 + n) (k + 1) (encT1 f p) := by
  obtain ⟨a1, a2, a3⟩ := h1
  refine ⟨by simp [encT1, smallD, smallAll, a1], ?_, ?_⟩
  · simp only [encT1, nodes, nodesAll]
    omega
  · simp only [encT1, PyData.depth, PyData.depthAll]
    omega
theorem sm_T4 {α β γ δ : Type} {f : α → PyData} {g : β → PyData} {h : γ → PyData} {e : δ → PyData} {n k m j l i o q : Nat} {p : α × β × γ × δ} (h1 : Sm n k (f p.1)) (h2 : Sm m j (g p.2.1)) (h3 : Sm l i (h p.2.2.1)) (h4 : Sm o q (e p.2.2.2)) : Sm (1 + n + m + l + o) (max k (max j (max i q)) + 1) (encT4 f g h e p) := by
  obtain ⟨a1, a2, a3⟩ := h1
  obtain ⟨b1, b2, b3⟩ := h2
  obtain ⟨c1, c2, c3⟩ := h3
  obtain ⟨d1, d2, d3⟩ := h4
  refine ⟨by simp [encT4, smallD, smallAll, a1, b1, c1, d1], ?_, ?_⟩
  · simp only [encT4, nodes, nodesAll]
    omega
  · simp only [encT4, PyData.depth, PyData.depthAll]
    omega
theorem Sm.enc {n k : Nat} {d : PyData} (h : Sm n k d) : Sm n k (encD d) := h
end Vx
/-! # fourth part: reckoning with functions that may refuse -/
namespace Vx
open PySem PySem.Spec PyProof.Rows L2
section
variable {α β σ ρ τ : Type}
theorem bind_ok (a : α) (f : α → Rx β) : (Rx.ok a).bind f = f a := rfl
theorem bind_er (e : Nat) (f : α → Rx β) : (Rx.er e : Rx α).bind f = .er e := rfl
theorem grd_pos {p : Prop} {dp : Decidable p} {m : Rx α} (h : p) : grd p m = m := if_pos h
theorem bnd_eq (a : α) (f : α → Rx β) : bnd a f = f a := rfl
theorem noEr_ok (a : α) : noEr (.ok a : Rx α) = .ok a := rfl
theorem tryR_ok {cs : List Nat} (a : α) (f : α → Rx β) (g : Nat → Rx β) : tryR (.ok a) cs f g = f a := rfl
theorem tryR_er {cs : List Nat} {e : Nat} (h : e ∈ cs) (f : α → Rx β) (g : Nat → Rx β) : tryR (.er e) cs f g = g e := if_pos h
theorem aft_go (s : σ) (kr : ρ → Rx τ) (k : σ → Rx τ) : (Lp.go s : Lp σ ρ).aft kr k = k s := rfl
theorem aft_rt (r : ρ) (kr : ρ → Rx τ) (k : σ → Rx τ) : (Lp.rt r : Lp σ ρ).aft kr k = kr r := rfl
/-- gives a value of which P holds -/
def Gv (m : Rx α) (P : α → Prop) : Prop := ∃ v, m = .ok v ∧ P v
theorem Gv.ok {a : α} {P : α → Prop} (h : P a) : Gv (.ok a) P := ⟨a, rfl, h⟩
theorem Gv.of_eq {m : Rx α} {a : α} {P : α → Prop} (e : m = .ok a) (h : P a) : Gv m P := ⟨a, e, h⟩
theorem Gv.bind {m : Rx α} {f : α → Rx β} {P : α → Prop} {Q : β → Prop} (h : Gv m P) (k : ∀ v, P v → Gv (f v) Q) : Gv (m.bind f) Q := by
  obtain ⟨v, rfl, p⟩ := h
  exact k v p
theorem Gv.bind_eq {m : Rx α} {f : α → Rx β} {a : α} {Q : β → Prop} (h : m = .ok a) (k : Gv (f a) Q) : Gv (m.bind f) Q := by
  subst h
  exact k
theorem Gv.grd {p : Prop} {dp : Decidable p} {m : Rx α} {Q : α → Prop} (h : p) (k : Gv m Q) : Gv (Vx.grd p m) Q := by
  rw [grd_pos h]
  exact k
theorem Gv.bnd {a : α} {f : α → Rx β} {Q : β → Prop} (k : ∀ x, x = a → Gv (f x) Q) : Gv (Vx.bnd a f) Q := k a rfl
theorem Gv.ite {p : Prop} {dp : Decidable p} {a b : Rx α} {Q : α → Prop} (h1 : p → Gv a Q) (h2 : ¬ p → Gv b Q) : Gv (if p then a else b) Q := by
  split
  · exact h1 ‹_›
  · exact h2 ‹_›
theorem Gv.pos {p : Prop} {dp : Decidable p} {a b : Rx α} {Q : α → Prop} (h : p) (k : Gv a Q) : Gv (if p then a else b) Q := by rwa [if_pos h]
theorem Gv.neg {p : Prop} {dp : Decidable p} {a b : Rx α} {Q : α → Prop} (h : ¬ p) (k : Gv b Q) : Gv (if p then a else b) Q := by rwa [if_neg h]
theorem Gv.imp {m : Rx α} {P Q : α → Prop} (h : Gv m P) (k : ∀ v, P v → Q v) : Gv m Q := by
  obtain ⟨v, e, p⟩ := h
  exact ⟨v, e, k v p⟩
theorem Gv.noEr {m : Rx α} {P : α → Prop} (h : Gv m P) : Gv (Vx.noEr m) P := by
  obtain ⟨v, rfl, p⟩ := h
  exact ⟨v, rfl, p⟩
theorem Gv.tryOk {m : Rx α} {cs : List Nat} {f : α → Rx β} {g : Nat → Rx β} {P : α → Prop} {Q : β → Prop} (h : Gv m P) (k : ∀ v, P v → Gv (f v) Q) : Gv (tryR m cs f g) Q := by
  obtain ⟨v, rfl, p⟩ := h
  exact k v p
theorem Gv.tryEr {m : Rx α} {cs : List Nat} {e : Nat} {f : α → Rx β} {g : Nat → Rx β} {Q : β → Prop} (h : m = .er e) (hm : e ∈ cs) (k : Gv (g e) Q) : Gv (tryR m cs f g) Q := by
  subst h
  rw [tryR_er hm]
  exact k
theorem Gv.get {m : Rx α} {a : α} (h : Gv m (fun v => v = a)) : m = .ok a := by
  obtain ⟨v, e, rfl⟩ := h
  exact e
theorem Gv.eq {m : Rx α} {P : α → Prop} (h : Gv m P) : ∃ v, m = .ok v ∧ P v := h
/-- a loop that keeps P -/
theorem Gv.forS {P : Nat → σ → Prop} {xs : List α} {s : σ} {f : σ → α → Rx σ} (h0 : P 0 s) (hs : ∀ i x s, xs[i]? = some x → P i s → Gv (f s x) (P (i + 1))) : Gv (Vx.forS xs s f) (P xs.length) := by
  induction xs generalizing s P with
  | nil => exact .ok h0
  | cons x r ih =>
    refine Gv.bind (hs 0 x s rfl h0) fun s' p => ?_
    exact ih (P := fun i => P (i + 1)) p fun i y s hy q => hs (i + 1) y s (by simpa using hy) q
theorem Gv.forR {P : Nat → σ → Prop} {xs : List α} {s : σ} {f : σ → α → Rx (Lp σ ρ)} (h0 : P 0 s) (hs : ∀ i x s, xs[i]? = some x → P i s → Gv (f s x) (fun l => ∃ s', l = .go s' ∧ P (i + 1) s')) : Gv (Vx.forR xs s f) (fun l => ∃ s', l = .go s' ∧ P xs.length s') := by
  induction xs generalizing s P with
  | nil => exact .ok ⟨s, rfl, h0⟩
  | cons x r ih =>
    refine Gv.bind (hs 0 x s rfl h0) ?_
    rintro _ ⟨s', rfl, p⟩
    exact ih (P := fun i => P (i + 1)) p fun i y s hy q => hs (i + 1) y s (by simpa using hy) q
/-- a loop that carries nothing -/
theorem forR_unit {xs : List α} {f : Unit → α → Rx (Lp Unit ρ)} (h : ∀ x ∈ xs, f () x = .ok (.go ())) : Vx.forR xs () f = .ok (.go ()) := by
  induction xs with
  | nil => rfl
  | cons x r ih =>
    show (f () x).bind _ = _
    rw [h x List.mem_cons_self]
    exact ih fun y hy => h y (List.mem_cons_of_mem _ hy)
theorem forS_pure {xs : List α} {s : σ} {f : σ → α → Rx σ} {g : σ → α → σ} (h : ∀ s x, x ∈ xs → f s x = .ok (g s x)) : Vx.forS xs s f = .ok (xs.foldl g s) := by
  induction xs generalizing s with
  | nil => rfl
  | cons x r ih =>
    show (f s x).bind _ = _
    rw [h s x List.mem_cons_self]
    exact ih fun s y hy => h s y (List.mem_cons_of_mem _ hy)
theorem mapA_pure {xs : List α} {acc : List β} {f : α → Rx β} {g : α → β} (h : ∀ x ∈ xs, f x = .ok (g x)) (hl : acc.length + xs.length ≤ 1000000) : mapA xs acc f = .ok (acc ++ xs.map g) := by
  induction xs generalizing acc with
  | nil => simp [mapA]
  | cons x r ih =>
    rw [List.length_cons] at hl
    unfold mapA
    rw [grd_pos (by omega), h x List.mem_cons_self, bind_ok, ih (fun y hy => h y (List.mem_cons_of_mem _ hy)) (by rw [List.length_append, List.length_cons, List.length_nil]; omega)]
    simp
theorem mapA_pure0 {xs : List α} {f : α → Rx β} {g : α → β} (h : ∀ x ∈ xs, f x = .ok (g x)) (hl : xs.length ≤ 1000000) : mapA xs [] f = .ok (xs.map g) := by
  rw [mapA_pure h (by simpa using hl)]
  rfl
theorem mapF_pure {xs : List α} {acc : List β} {f : α → Rx (Option β)} {g : α → Option β} (h : ∀ x ∈ xs, f x = .ok (g x)) (hl : acc.length + xs.length ≤ 1000000) : mapF xs acc f = .ok (acc ++ xs.filterMap g) := by
  induction xs generalizing acc with
  | nil => simp [mapF]
  | cons x r ih =>
    rw [List.length_cons] at hl
    unfold mapF
    rw [grd_pos (by omega), h x List.mem_cons_self, bind_ok]
    cases e : g x with
    | none =>
      show mapF r acc f = _
      rw [ih (fun y hy => h y (List.mem_cons_of_mem _ hy)) (by omega), List.filterMap_cons, e]
    | some z =>
      show mapF r (acc ++ [z]) f = _
      rw [ih (fun y hy => h y (List.mem_cons_of_mem _ hy)) (by rw [List.length_append, List.length_cons, List.length_nil]; omega), List.filterMap_cons, e]
      simp
/-- a while that ends: m falls -/
theorem Gv.whileR {P : σ → Prop} {R : σ → Prop} (m : σ → Nat) {f : σ → Rx (Lp σ ρ)} (hs : ∀ s, P s → Gv (f s) (fun l => (∃ s', l = .go s' ∧ P s' ∧ m s' < m s) ∨ ∃ s', l = .bk s' ∧ R s')) : ∀ {n : Nat} {s : σ}, P s → m s < n → Gv (Vx.whileR n s f) (fun l => ∃ s', l = .go s' ∧ R s') := by
  intro n
  induction n with
  | zero => intro s _ h; exact absurd h (Nat.not_lt_zero _)
  | succ n ih =>
    intro s p h
    refine Gv.bind (hs s p) ?_
    rintro _ (⟨s', rfl, p', l⟩ | ⟨s', rfl, r⟩)
    · exact ih p' (by omega)
    · exact .ok ⟨s', rfl, r⟩
end
/-- a loop that may return -/
theorem Gv.forRR {α σ ρ : Type} {P : Nat → σ → Prop} {Q : ρ → Prop} {xs : List α} {s : σ} {f : σ → α → Rx (Lp σ ρ)} (h0 : P 0 s) (hs : ∀ i x s, xs[i]? = some x → P i s → Gv (f s x) (fun l => (∃ s', l = .go s' ∧ P (i + 1) s') ∨ ∃ r, l = .rt r ∧ Q r)) : Gv (Vx.forR xs s f) (fun l => (∃ s', l = .go s' ∧ P xs.length s') ∨ ∃ r, l = .rt r ∧ Q r) := by
  induction xs generalizing s P with
  | nil => exact .ok (.inl ⟨s, rfl, h0⟩)
  | cons x r ih =>
    refine Gv.bind (hs 0 x s rfl h0) ?_
    rintro _ (⟨s', rfl, p⟩ | ⟨r, rfl, q⟩)
    · exact ih (P := fun i => P (i + 1)) p fun i y s hy q => hs (i + 1) y s (by simpa using hy) q
    · exact .ok (.inr ⟨r, rfl, q⟩)
theorem rng_mem {lo x : Int} {n : Nat} (h : x ∈ rng lo n) : lo ≤ x ∧ x < lo + n := by
  unfold rng at h
  obtain ⟨j, hj, rfl⟩ := List.mem_map.mp h
  have := List.mem_range.mp hj
  omega
theorem rng_at {lo x : Int} {n i : Nat} (h : (rng lo n)[i]? = some x) : x = lo + i ∧ i < n := by
  have hl := get_len h
  rw [rng_len] at hl
  rw [rng_get hl] at h
  exact ⟨(Option.some.inj h).symm, hl⟩
end Vx
namespace Vx
open PySem PySem.Spec PyProof.Rows L2
def F__law_digits_b1 (base_12 : Int) (large_13 : Bool) (cell_25 : Int) (digits_26 : (List Int)) (it29 : Int) : Rx (Int × (List Int)) :=
  (if large_13 = true then grd (0 < (base_12 : Int)) <| grd ((digits_26).length ≤ 1000000) <| bnd ((digits_26) ++ [(cell_25 % base_12)]) fun y39 => grd (0 < (base_12 : Int) ∧ (base_12 : Int) < 2 ^ 128) <| bnd ((cell_25 / base_12)) fun cell_41 => .ok ((cell_41), (y39)) else grd ((-(2 ^ 64) < ((it29 + 1) : Int) ∧ ((it29 + 1) : Int) < 2 ^ 64) ∨ (-(2 ^ 64) < ((it29 + 5) : Int) ∧ ((it29 + 5) : Int) < 2 ^ 64)) <| grd ((-(2 ^ 64) < ((cell_25 / 97) : Int) ∧ ((cell_25 / 97) : Int) < 2 ^ 64) ∨ (-(2 ^ 64) < (it29 : Int) ∧ (it29 : Int) < 2 ^ 64)) <| grd (0 < (base_12 : Int)) <| grd ((digits_26).length ≤ 1000000) <| bnd ((digits_26) ++ [(((((cell_25 * 48271) + (((it29 + 1) * (it29 + 5)) * 69621)) + ((cell_25 / 97) * it29)) % 2147483647) % base_12)]) fun y52 => .ok ((cell_25), (y52)))

def F__law_digits_r1 (cell_58 : Int) (digits_59 : (List Int)) : Rx (List Int) :=
  .ok (digits_59)

def F__law_digits (cell' : Int) (base' : Int) (most' : Int) : Rx (List Int) :=
  bnd (decide (((10 : Int) ^ Int.toNat 18) ≤ cell')) fun large_10 => grd (-(2 ^ 62) ≤ (most' : Int) ∧ (most' : Int) < 2 ^ 62) <| Rx.bind (forS (rng (0) (Int.toNat (most'))) ((cell'), (([] : (List Int)))) (fun s x => F__law_digits_b1 (base') (large_10) (s.1) (s.2) x)) fun s => F__law_digits_r1  (s.1) (s.2)

def F__law_level (digit' : Int) : Rx Int :=
  (if ((digit' % 3) : Int) = 0 then .ok (0) else grd ((0 : Int) ≤ ((digit' / 3) % 19) ∧ (((digit' / 3) % 19) : Int) ≤ 4096 ∧ -(2 ^ 4096) < (1 : Int) ∧ (1 : Int) < 2 ^ 4096) <| bnd ((((1 * 2 ^ Int.toNat (((digit' / 3) % 19))) + ((digit' / 57) % 3)) - 1)) fun worth_62 => (if (((digit' / 171) % 2) : Int) = 1 then .ok ((0 - worth_62)) else .ok (worth_62)))

def F__law_block_c4 (digits_193 : (List Int)) (plane_194 : Int) (k_195 : Int) (it230 : Int) : Rx Int :=
  grd (-((digits_193 : (List Int)).length : Int) ≤ ((((7 * plane_194) + (5 * k_195)) + it230) % 40) ∧ ((((7 * plane_194) + (5 * k_195)) + it230) % 40) < ((digits_193 : (List Int)).length : Int)) <| Rx.bind (F__law_level ((itD (digits_193) (((((7 * plane_194) + (5 * k_195)) + it230) % 40))))) fun v232 => .ok v232

def F__law_block_c3 (digits_156 : (List Int)) (plane_157 : Int) (length_158 : Int) (it191 : Int) : Rx (List Int) :=
  grd (-(2 ^ 62) ≤ (length_158 : Int) ∧ (length_158 : Int) < 2 ^ 62) <| Rx.bind (mapA (rng (0) (Int.toNat (length_158))) [] (fun x => noEr (F__law_block_c4 (digits_156) (plane_157) (it191) x))) fun v196 => .ok v196

def F__law_block_k2 (digits_138 : (List Int)) (levels_139 : (List (List (List Int)))) (plane_140 : Int) (count_141 : Int) (length_142 : Int) : Rx ((List (List (List Int)))) :=
  grd (-(2 ^ 62) ≤ (count_141 : Int) ∧ (count_141 : Int) < 2 ^ 62) <| Rx.bind (mapA (rng (0) (Int.toNat (count_141))) [] (fun x => noEr (F__law_block_c3 (digits_138) (plane_140) (length_142) x))) fun v159 => grd ((levels_139).length ≤ 1000000) <| bnd ((levels_139) ++ [v159]) fun y295 => .ok (y295)

def F__law_block_b1 (chroma_104 : Int) (size_105 : Int) (digits_106 : (List Int)) (levels_126 : (List (List (List Int)))) (it129 : Int) : Rx ((List (List (List Int)))) :=
  bnd ((if (size_105 : Int) = 4 then 4 else 1)) fun count_133 => bnd ((if (size_105 : Int) = 4 then 16 else 64)) fun length_137 => Rx.bind (((if 0 < it129 then (if (chroma_104 : Int) = 1 then .ok ((1), (16)) else .ok ((count_133), (length_137))) else .ok ((count_133), (length_137))) : Rx (Int × Int))) fun s => F__law_block_k2 (digits_106) (levels_126) (it129) (s.1) (s.2)

def F__law_block_r1 (cell_107 : Int) (kind_108 : Int) (size_109 : Int) (levels_304 : (List (List (List Int)))) : Rx PyData :=
  (if (kind_108 : Int) = 0 then grd (-(2 ^ 63) ≤ ((if (size_109 : Int) = 8 then 1 else 4) : Int) ∧ ((if (size_109 : Int) = 8 then 1 else 4) : Int) < 2 ^ 63 ∧ ([((cell_107 / 11) % 8)]).length * Int.toNat ((if (size_109 : Int) = 8 then 1 else 4)) ≤ 1000000) <| .ok (((encT4 PyData.str (encL PyData.int) PyData.int (encL (encL (encL PyData.int)))) ((("intra" : Str), repL ([((cell_107 / 11) % 8)]) ((if (size_109 : Int) = 8 then 1 else 4)), 0, levels_304)))) else .ok (((encT4 PyData.str (encL (encT4 PyData.int PyData.int (encT2 PyData.int PyData.int) encN)) PyData.int (encL (encL (encL PyData.int)))) ((("inter" : Str), [(0, 0, ((cell_107 % 9), 0), ())], size_109, levels_304)))))

def F__law_block (cell' : Int) : Rx PyData :=
  bnd ((cell' % 3)) fun kind_64 => (if (kind_64 : Int) = 2 then .ok (((encT1 PyData.str) ((("skip" : Str))))) else bnd (((cell' / 3) % 3)) fun chroma_79 => bnd ((8 - (4 * ((cell' / 9) % 2)))) fun size_80 => Rx.bind (F__law_digits ((cell' / 18)) 5130 40) fun v81 => grd (-(2 ^ 62) ≤ ((if (chroma_79 : Int) = 0 then 1 else 3) : Int) ∧ ((if (chroma_79 : Int) = 0 then 1 else 3) : Int) < 2 ^ 62) <| Rx.bind (forS (rng (0) (Int.toNat ((if (chroma_79 : Int) = 0 then 1 else 3)))) (([] : (List (List (List Int))))) (fun s x => F__law_block_b1 (chroma_79) (size_80) (v81) s x)) fun s => F__law_block_r1 (cell') (kind_64) (size_80) s)

def F_block_price_c3 (it531 : Int) : Rx (Option Int) :=
  (if (it531 : Int) = 0 then .ok none else .ok (some (((2 * ((PySem.Builtin.Int.intBits ((if it531 < 0 then -it531 else it531)) : Nat) : Int)) + 1))))

def F_block_price_b2 (price_484 : Int) (it487 : (List Int)) : Rx (Int) :=
  Rx.bind (mapF (it487) [] (fun x => noEr (F_block_price_c3  x))) fun v488 => bnd ((price_484 + (List.sum (v488)))) fun price_553 => .ok (price_553)

def F_block_price_r2 (price_559 : Int) : Rx (Int) :=
  .ok (price_559)

def F_block_price_b1 (price_462 : Int) (it465 : (List (List Int))) : Rx (Int) :=
  Rx.bind (forS (it465) (price_462) (fun s x => F_block_price_b2  s x)) fun s => F_block_price_r2  s

def F_block_price_r1 (price_565 : Int) : Rx Int :=
  .ok (price_565)

def F_block_price_c6 (it663 : Int) : Rx (Option Int) :=
  (if (it663 : Int) = 0 then .ok none else .ok (some (((2 * ((PySem.Builtin.Int.intBits ((if it663 < 0 then -it663 else it663)) : Nat) : Int)) + 1))))

def F_block_price_b5 (price_619 : Int) (it622 : (List Int)) : Rx (Int) :=
  Rx.bind (mapF (it622) [] (fun x => noEr (F_block_price_c6  x))) fun v623 => bnd ((price_619 + (List.sum (v623)))) fun price_683 => .ok (price_683)

def F_block_price_r5 (price_688 : Int) : Rx (Int) :=
  .ok (price_688)

def F_block_price_b4 (price_599 : Int) (it602 : (List (List Int))) : Rx (Int) :=
  Rx.bind (forS (it602) (price_599) (fun s x => F_block_price_b5  s x)) fun s => F_block_price_r5  s

def F_block_price_r4 (price_693 : Int) : Rx Int :=
  .ok (price_693)

def F_block_price (block' : PyData) : Rx Int :=
  grd (dHasT (block') 0 = true) <| grd ((cS).ok ((dGet (block') 0)) = true) <| grd (hasS ([("skip", 0), ("intra", 1), ("inter", 3)] : List (Str × Int)) (((cS).dec ((dGet (block') 0)))) = true) <| bnd ((dictS ([("skip", 0), ("intra", 1), ("inter", 3)] : List (Str × Int)) (((cS).dec ((dGet (block') 0)))))) fun price_419 => grd (dHasT (block') 0 = true) <| grd ((cS).ok ((dGet (block') 0)) = true) <| (if V.str (((cS).dec ((dGet (block') 0)))) = V.str (("skip" : Str)) then Rx.bind (forS (([] : (List (List (List Int))))) (price_419) (fun s x => F_block_price_b1  s x)) fun s => F_block_price_r1  s else grd (dHasT (block') 3 = true) <| grd (((cL (cL (cL cI)))).ok ((dGet (block') 3)) = true) <| Rx.bind (forS ((((cL (cL (cL cI)))).dec ((dGet (block') 3)))) (price_419) (fun s x => F_block_price_b4  s x)) fun s => F_block_price_r4  s)

def F_clip (value' : Int) (low' : Int) (high' : Int) : Rx Int :=
  .ok ((if high' < (if low' > value' then low' else value') then high' else (if low' > value' then low' else value')))

def F__clip_component (component' : Int) : Rx Int :=
  Rx.bind (F_clip component' ((-1023)) 1023) fun v694 => .ok (v694)

def F_clip_vector (x' : Int) (y' : Int) : Rx (Int × Int) :=
  Rx.bind (F__clip_component x') fun v695 => Rx.bind (F__clip_component y') fun v696 => .ok ((v695, v696))

def F_near_vectors_c1 (it835 : (Int × Int)) : Rx (Int × Int) :=
  Rx.bind (F_clip_vector it835.1 it835.2) fun v836 => .ok v836

def F_near_vectors (vector' : (Int × Int)) : Rx (List (Int × Int)) :=
  Rx.bind (mapA ([(vector'.1, vector'.2), ((vector'.1 - 4), vector'.2), ((vector'.1 + 4), vector'.2), (vector'.1, (vector'.2 - 4)), (vector'.1, (vector'.2 + 4))]) [] (fun x => noEr (F_near_vectors_c1  x))) fun v785 => .ok (v785)

def F__law_cell (script' : (List Int)) (k' : Int) : Rx Int :=
  (if k' < (((script') : (List Int)).length : Int) then grd (-((script' : (List Int)).length : Int) ≤ k' ∧ k' < ((script' : (List Int)).length : Int)) <| .ok ((if (itD (script') (k')) < 0 then -(itD (script') (k')) else (itD (script') (k')))) else .ok (0))

def F__law_is_integer (actual' : Int) : Rx Bool :=
  .ok (true)

def F__law_price_b5 (worth_995 : Int) (price_1005 : Int) (it1008 : Int) : Rx (Int) :=
  grd ((0 : Int) ≤ it1008 ∧ (it1008 : Int) ≤ 4096 ∧ -(2 ^ 4096) < (1 : Int) ∧ (1 : Int) < 2 ^ 4096) <| (if (1 * 2 ^ Int.toNat (it1008)) ≤ worth_995 then bnd ((price_1005 + 2)) fun price_1011 => .ok (price_1011) else .ok (price_1005))

def F__law_price_r5 (price_1016 : Int) : Rx (Int) :=
  .ok (price_1016)

def F__law_price_k4 (worth_984 : Int) (price_985 : Int) : Rx (Int) :=
  Rx.bind (forS (rng (0) (Int.toNat (30))) (price_985) (fun s x => F__law_price_b5 (worth_984) s x)) fun s => F__law_price_r5  s

def F__law_price_b3 (price_979 : Int) (it982 : Int) : Rx (Int) :=
  bnd ((if it982 < 0 then -it982 else it982)) fun worth_983 => Rx.bind (((if 0 < worth_983 then bnd ((price_979 + 1)) fun price_990 => .ok (price_990) else .ok (price_979)) : Rx (Int))) fun s => F__law_price_k4 (worth_983) s

def F__law_price_r3 (price_1021 : Int) : Rx (Int) :=
  .ok (price_1021)

def F__law_price_b2 (price_960 : Int) (it963 : (List Int)) : Rx (Int) :=
  Rx.bind (forS (it963) (price_960) (fun s x => F__law_price_b3  s x)) fun s => F__law_price_r3  s

def F__law_price_r2 (price_1026 : Int) : Rx (Int) :=
  .ok (price_1026)

def F__law_price_b1 (price_937 : Int) (it940 : (List (List Int))) : Rx (Int) :=
  Rx.bind (forS (it940) (price_937) (fun s x => F__law_price_b2  s x)) fun s => F__law_price_r2  s

def F__law_price_r1 (price_1031 : Int) : Rx Int :=
  .ok (price_1031)

def F__law_price_b10 (worth_1126 : Int) (price_1136 : Int) (it1139 : Int) : Rx (Int) :=
  grd ((0 : Int) ≤ it1139 ∧ (it1139 : Int) ≤ 4096 ∧ -(2 ^ 4096) < (1 : Int) ∧ (1 : Int) < 2 ^ 4096) <| (if (1 * 2 ^ Int.toNat (it1139)) ≤ worth_1126 then bnd ((price_1136 + 2)) fun price_1142 => .ok (price_1142) else .ok (price_1136))

def F__law_price_r10 (price_1147 : Int) : Rx (Int) :=
  .ok (price_1147)

def F__law_price_k9 (worth_1115 : Int) (price_1116 : Int) : Rx (Int) :=
  Rx.bind (forS (rng (0) (Int.toNat (30))) (price_1116) (fun s x => F__law_price_b10 (worth_1115) s x)) fun s => F__law_price_r10  s

def F__law_price_b8 (price_1110 : Int) (it1113 : Int) : Rx (Int) :=
  bnd ((if it1113 < 0 then -it1113 else it1113)) fun worth_1114 => Rx.bind (((if 0 < worth_1114 then bnd ((price_1110 + 1)) fun price_1121 => .ok (price_1121) else .ok (price_1110)) : Rx (Int))) fun s => F__law_price_k9 (worth_1114) s

def F__law_price_r8 (price_1152 : Int) : Rx (Int) :=
  .ok (price_1152)

def F__law_price_b7 (price_1091 : Int) (it1094 : (List Int)) : Rx (Int) :=
  Rx.bind (forS (it1094) (price_1091) (fun s x => F__law_price_b8  s x)) fun s => F__law_price_r8  s

def F__law_price_r7 (price_1157 : Int) : Rx (Int) :=
  .ok (price_1157)

def F__law_price_b6 (price_1068 : Int) (it1071 : (List (List Int))) : Rx (Int) :=
  Rx.bind (forS (it1071) (price_1068) (fun s x => F__law_price_b7  s x)) fun s => F__law_price_r7  s

def F__law_price_r6 (price_1162 : Int) : Rx Int :=
  .ok (price_1162)

def F__law_price (block' : PyData) : Rx Int :=
  grd (dHasT (block') 0 = true) <| grd ((cS).ok ((dGet (block') 0)) = true) <| (if V.str (((cS).dec ((dGet (block') 0)))) = V.str (("skip" : Str)) then .ok (0) else grd (dHasT (block') 0 = true) <| grd ((cS).ok ((dGet (block') 0)) = true) <| (if V.str (((cS).dec ((dGet (block') 0)))) = V.str (("intra" : Str)) then grd (dHasT (block') 3 = true) <| grd (((cL (cL (cL cI)))).ok ((dGet (block') 3)) = true) <| Rx.bind (forS ((((cL (cL (cL cI)))).dec ((dGet (block') 3)))) (1) (fun s x => F__law_price_b1  s x)) fun s => F__law_price_r1  s else grd (dHasT (block') 3 = true) <| grd (((cL (cL (cL cI)))).ok ((dGet (block') 3)) = true) <| Rx.bind (forS ((((cL (cL (cL cI)))).dec ((dGet (block') 3)))) (3) (fun s x => F__law_price_b6  s x)) fun s => F__law_price_r6  s))

def F__law_near_b1 (x_1243 : Int) (y_1244 : Int) (due_1273 : (List (Int × Int))) (it1276 : (Int × Int)) : Rx ((List (Int × Int))) :=
  grd ((due_1273).length ≤ 1000000) <| bnd ((due_1273) ++ [((if (if (x_1243 + it1276.1) < 1023 then (x_1243 + it1276.1) else 1023) > (-1023) then (if (x_1243 + it1276.1) < 1023 then (x_1243 + it1276.1) else 1023) else (-1023)), (if (if (y_1244 + it1276.2) < 1023 then (y_1244 + it1276.2) else 1023) > (-1023) then (if (y_1244 + it1276.2) < 1023 then (y_1244 + it1276.2) else 1023) else (-1023)))]) fun y1298 => .ok (y1298)

def F__law_near_r1 (due_1307 : (List (Int × Int))) : Rx (List (Int × Int)) :=
  .ok (due_1307)

def F__law_near (x' : Int) (y' : Int) : Rx (List (Int × Int)) :=
  Rx.bind (forS ([(0, 0), ((-4), 0), (4, 0), (0, (-4)), (0, 4)]) (([] : (List (Int × Int)))) (fun s x => F__law_near_b1 (x') (y') s x)) fun s => F__law_near_r1  s

def F_law_b4 (it1450 : (Int × Int)) : Rx (Lp Unit Bool) :=
  Rx.bind (F__law_is_integer it1450.1) fun v1451 => (if v1451 = true then Rx.bind (F__law_is_integer it1450.2) fun v1453 => (if v1453 = true then .ok (.go ()) else .ok (.rt (false))) else .ok (.rt (false)))

def F_law_r4  : Rx (Lp Unit Bool) :=
  .ok (.go ())

def F_law_k3 (x_1377 : Int) (y_1378 : Int) : Rx (Lp Unit Bool) :=
  Rx.bind (F_near_vectors ((x_1377, y_1378))) fun v1400 => Rx.bind (F__law_near x_1377 y_1378) fun v1414 => (if (v1400 : (List (Int × Int))) = v1414 then Rx.bind (forR (v1400) () (fun s x => F_law_b4   x)) fun l => l.aft (fun r => .ok (.rt r)) fun s => F_law_r4   else .ok (.rt (false)))

def F_law_k2 (cell_1365 : Int) (y_1366 : Int) (x_1367 : Int) : Rx (Lp Unit Bool) :=
  Rx.bind (((if (((cell_1365 / 3) % 4) : Int) = 1 then bnd ((((cell_1365 / 11) % 6) - 1023)) fun y_1383 => .ok (y_1383) else .ok (y_1366)) : Rx (Int))) fun s => F_law_k3 (x_1367) s

def F_law_b1 (script_1313 : (List Int)) (it1332 : Int) : Rx (Lp Unit Bool) :=
  Rx.bind (F__law_cell (script_1313) it1332) fun v1333 => bnd ((v1333 + it1332)) fun cell_1334 => Rx.bind (F__law_block cell_1334) fun v1335 => grd (dSeq (v1335) = true ∧ ShowOk (v1335)) <| Rx.bind (F_block_price (v1335)) fun v1348 => Rx.bind (F__law_is_integer v1348) fun v1352 => (if v1352 = true then Rx.bind (F__law_price (v1335)) fun v1354 => (if (v1348 : Int) = v1354 then grd (dSeq (v1335) = true ∧ ShowOk (v1335)) <| (if V.str ((PyData.shown (v1335))) = V.str ((PyData.shown (v1335))) then bnd ((((cell_1334 / 5) % 2047) - 1023)) fun x_1363 => bnd ((((cell_1334 / 7) % 2047) - 1023)) fun y_1364 => Rx.bind (((if (((cell_1334 / 3) % 4) : Int) = 0 then bnd ((1023 - ((cell_1334 / 11) % 6))) fun x_1372 => .ok (x_1372) else .ok (x_1363)) : Rx (Int))) fun s => F_law_k2 (cell_1334) (y_1364) s else .ok (.rt (false))) else .ok (.rt (false))) else .ok (.rt (false)))

def F_law_r1  : Rx Bool :=
  .ok (true)

def F_law (script' : (List Int)) : Rx Bool :=
  grd (-(2 ^ 62) ≤ ((if 8 < (1 + (((script') : (List Int)).length : Int)) then 8 else (1 + (((script') : (List Int)).length : Int))) : Int) ∧ ((if 8 < (1 + (((script') : (List Int)).length : Int)) then 8 else (1 + (((script') : (List Int)).length : Int))) : Int) < 2 ^ 62) <| Rx.bind (forR (rng (0) (Int.toNat ((if 8 < (1 + (((script') : (List Int)).length : Int)) then 8 else (1 + (((script') : (List Int)).length : Int)))))) () (fun s x => F_law_b1 (script')  x)) fun l => l.aft Rx.ok fun s => F_law_r1  
theorem cell_gv (s : List Int) (k : Int) (h : 0 ≤ k) : Gv (F__law_cell s k) (fun v => 0 ≤ v) := by
  unfold F__law_cell
  refine Gv.ite (fun c => Gv.grd ⟨by omega, c⟩ (.ok ?_)) fun _ => .ok (by decide)
  split <;> omega
theorem all_snoc {P : Int → Prop} {xs : List Int} {y : Int} (h : ∀ x ∈ xs, P x) (hy : P y) : ∀ x ∈ xs ++ [y], P x := fun x hx => by
  rcases List.mem_append.mp hx with q | q
  · exact h x q
  · rw [List.mem_singleton.mp q]
    exact hy
theorem digits_gv (cell base most : Int) (h0 : 0 < base) (h1 : base < 2 ^ 64) (hm : 0 ≤ most) (hm2 : most ≤ 1000) : Gv (F__law_digits cell base most) (fun v => (v.length : Int) = most ∧ ∀ x ∈ v, 0 ≤ x ∧ x < base) := by
  unfold F__law_digits
  refine Gv.bnd fun large _ => Gv.grd ⟨by omega, by omega⟩ (Gv.bind (Gv.forS (P := fun i s => s.2.length = i ∧ ∀ x ∈ s.2, 0 ≤ x ∧ x < base) ⟨rfl, fun x hx => by cases hx⟩ fun i x s hx p => ?_) fun s p => .ok ⟨?_, p.2⟩)
  · obtain ⟨rfl, hi⟩ := rng_at hx
    have hl := p.1
    unfold F__law_digits_b1
    refine Gv.ite (fun _ => Gv.grd h0 (Gv.grd (by omega) (Gv.bnd fun y hy => Gv.grd ⟨h0, by omega⟩ (Gv.bnd fun c _ => .ok ?_)))) fun _ => Gv.grd ?_ (Gv.grd ?_ (Gv.grd h0 (Gv.grd (by omega) (Gv.bnd fun y hy => .ok ?_))))
    · subst hy
      exact ⟨by rw [List.length_append, hl]; rfl, all_snoc p.2 ⟨Int.emod_nonneg _ (by omega), Int.emod_lt_of_pos _ h0⟩⟩
    · left
      omega
    · right
      omega
    · subst hy
      exact ⟨by rw [List.length_append, hl]; rfl, all_snoc p.2 ⟨Int.emod_nonneg _ (by omega), Int.emod_lt_of_pos _ h0⟩⟩
  · have := p.1
    rw [rng_len] at this
    omega
theorem one_4096 : -(2 ^ 4096) < (1 : Int) ∧ (1 : Int) < 2 ^ 4096 := by
  have h : (0 : Int) < 2 ^ 4095 := Int.pow_pos (by decide)
  have e : (2 : Int) ^ 4096 = 2 ^ 4095 * 2 := Int.pow_succ 2 4095
  generalize (2 : Int) ^ 4095 = z at h e
  generalize (2 : Int) ^ 4096 = y at e ⊢
  omega
theorem top_b {d : Int} (h0 : 0 ≤ d) (h1 : d < 5) : 255 ≤ 1 * 2 ^ Int.toNat (8 + d) - (1 : Int) ∧ 1 * 2 ^ Int.toNat (8 + d) - (1 : Int) ≤ 4095 := by
  have : d = 0 ∨ d = 1 ∨ d = 2 ∨ d = 3 ∨ d = 4 := by omega
  rcases this with rfl | rfl | rfl | rfl | rfl <;> decide
def bl (v : Int) : Nat := PySem.Builtin.Int.intBits v
theorem powp (i : Nat) : (1 : Int) ≤ 2 ^ i := Int.add_one_le_of_lt (Int.pow_pos (by decide))
theorem pow_mono {i w : Nat} (h : i ≤ w) : (2 : Int) ^ i ≤ 2 ^ w := by
  obtain ⟨k, rfl⟩ := Nat.exists_eq_add_of_le h
  rw [Int.pow_add]
  have h1 := powp i
  have := Int.mul_le_mul_of_nonneg_left (powp k) (show (0 : Int) ≤ 2 ^ i by omega)
  omega
theorem bl_in {v : Int} (h : 1 ≤ v) : 1 ≤ bl v ∧ (2 : Int) ^ (bl v - 1) ≤ v ∧ v < 2 ^ (bl v) := by
  obtain ⟨n, rfl⟩ := Int.eq_ofNat_of_zero_le (show 0 ≤ v by omega)
  have hn : n ≠ 0 := by omega
  have e : bl (n : Int) = n.log2 + 1 := by
    unfold bl PySem.Builtin.Int.intBits
    rw [if_neg (by simp; omega)]
    rfl
  rw [e]
  have h1 : 2 ^ n.log2 ≤ n := Nat.log2_self_le hn
  have h2 : n < 2 ^ (n.log2 + 1) := Nat.lt_log2_self
  refine ⟨by omega, ?_, ?_⟩
  · rw [Nat.add_sub_cancel]
    exact_mod_cast h1
  · exact_mod_cast h2
theorem bl_small {v : Int} {k : Nat} (h0 : 1 ≤ v) (h : v < 2 ^ k) : bl v ≤ k := by
  have hb := bl_in h0
  rcases Nat.lt_or_ge k (bl v) with c | c
  · have := pow_mono (i := k) (w := bl v - 1) (by omega)
    omega
  · exact c
def pw (l : Int) : Int := if l = 0 then 0 else 2 * (bl (if l < 0 then -l else l) : Int) + 1
def InL (l : Int) : Prop := -(1000000 : Int) ≤ l ∧ l ≤ 1000000
theorem pow18 {i : Nat} (h : i ≤ 18) : (1 : Int) ≤ 2 ^ i ∧ (2 : Int) ^ i ≤ 262144 := ⟨powp i, by have := pow_mono (i := i) (w := 18) h; have e : (2 : Int) ^ 18 = 262144 := by decide
                                                                                                 omega⟩
theorem level_gv (d : Int) (h : 0 ≤ d) : Gv (F__law_level d) InL := by
  unfold F__law_level
  refine Gv.ite (fun _ => .ok ⟨by decide, by decide⟩) fun _ => Gv.grd ⟨by omega, by omega, one_4096.1, one_4096.2⟩ (Gv.bnd fun w hw => ?_)
  have hp := pow18 (i := Int.toNat (d / 3 % 19)) (by omega)
  generalize (2 : Int) ^ Int.toNat (d / 3 % 19) = z at hp hw
  exact Gv.ite (fun _ => .ok (by unfold InL; omega)) fun _ => .ok (by unfold InL; omega)
def GoodL (lv : List (List (List Int))) : Prop := lv.length ≤ 3 ∧ ∀ ps ∈ lv, ps.length ≤ 4 ∧ ∀ p ∈ ps, p.length ≤ 64 ∧ ∀ l ∈ p, InL l
def GoodB (d : PyData) : Prop := ShowOk d ∧ (d = .tuple [.str "skip"] ∨ ∃ k a b lv, (k = ("intra" : Str) ∨ k = ("inter" : Str)) ∧ d = .tuple [.str k, a, b, encL (encL (encL PyData.int)) lv] ∧ GoodL lv)
theorem mapA_gv {α β : Type} {P : α → Prop} {Q : β → Prop} {xs : List α} {acc : List β} {f : α → Rx β} (hf : ∀ x ∈ xs, Gv (f x) Q) (ha : ∀ y ∈ acc, Q y) (hl : acc.length + xs.length ≤ 1000000) : Gv (mapA xs acc f) (fun v => v.length = acc.length + xs.length ∧ ∀ y ∈ v, Q y) := by
  induction xs generalizing acc with
  | nil => exact .ok ⟨by simp, ha⟩
  | cons x r ih =>
    rw [List.length_cons] at hl
    unfold mapA
    refine Gv.grd (by omega) (Gv.bind (hf x List.mem_cons_self) fun y hy => ?_)
    refine (ih (fun z hz => hf z (List.mem_cons_of_mem _ hz)) (acc := acc ++ [y]) (fun z hz => ?_) (by rw [List.length_append, List.length_cons, List.length_nil]; omega)).imp fun v p => ⟨by rw [p.1, List.length_append, List.length_cons, List.length_cons, List.length_nil]; omega, p.2⟩
    rcases List.mem_append.mp hz with q | q
    · exact ha z q
    · rw [List.mem_singleton.mp q]; exact hy
theorem mapA_gv0 {α β : Type} {Q : β → Prop} {xs : List α} {f : α → Rx β} (hf : ∀ x ∈ xs, Gv (f x) Q) (hl : xs.length ≤ 1000000) : Gv (mapA xs [] f) (fun v => v.length = xs.length ∧ ∀ y ∈ v, Q y) :=
  (mapA_gv (P := fun _ => True) hf (fun y hy => by cases hy) (by simpa using hl)).imp fun v p => ⟨by simpa using p.1, p.2⟩
theorem itD_in {P : Int → Prop} {xs : List Int} {k : Int} (h : ∀ x ∈ xs, P x) (h0 : 0 ≤ k) (h1 : k < xs.length) : P (itD xs k) := by
  have e : itD xs k = xs[k.toNat]'(by omega) := by
    unfold itD atI ixN
    rw [if_pos h0, if_pos h1]
    show (xs[k.toNat]?).getD default = _
    rw [List.getElem?_eq_getElem (by omega)]
    rfl
  rw [e]
  exact h _ (List.getElem_mem _)
theorem k2_gv (ds : List Int) (lv : List (List (List Int))) (p c l : Int) (hd : ds.length = 40 ∧ ∀ x ∈ ds, 0 ≤ x ∧ x < 5130) (hc : 0 ≤ c ∧ c ≤ 4) (hl : 0 ≤ l ∧ l ≤ 64) (hv : lv.length ≤ 1000) : Gv (F__law_block_k2 ds lv p c l) (fun v => ∃ ps, v = lv ++ [ps] ∧ ps.length ≤ 4 ∧ ∀ q ∈ ps, q.length ≤ 64 ∧ ∀ l ∈ q, InL l) := by
  unfold F__law_block_k2
  refine Gv.grd ⟨by omega, by omega⟩ (Gv.bind (mapA_gv0 (Q := fun q : List Int => q.length ≤ 64 ∧ ∀ l ∈ q, InL l) (fun x hx => Gv.noEr ?_) (by rw [rng_len]; omega)) fun v hv2 => Gv.grd (by omega) (Gv.bnd fun y hy => .ok ⟨v, hy, ?_, hv2.2⟩))
  · unfold F__law_block_c3
    refine Gv.grd ⟨by omega, by omega⟩ (Gv.bind (mapA_gv0 (Q := InL) (fun z hz => Gv.noEr ?_) (by rw [rng_len]; omega)) fun w hw => .ok ⟨by rw [hw.1, rng_len]; omega, hw.2⟩)
    unfold F__law_block_c4
    refine Gv.grd ⟨by omega, by omega⟩ (Gv.bind (level_gv _ ?_) fun v p => .ok p)
    exact (itD_in (P := fun x => 0 ≤ x ∧ x < 5130) hd.2 (by omega) (by omega)).1
  · rw [hv2.1, rng_len]
    omega
theorem sm_i {x : Str} (h : x = "intra" ∨ x = "inter") : Sm 1 0 (.str x) := sm_str (by rcases h with rfl | rfl <;> decide +kernel)
theorem sm_z : Sm 1 0 (.int 0) := sm_int ⟨by decide, by decide⟩
theorem sm_levels {lv : List (List (List Int))} (h : GoodL lv) : Sm 1000 3 (encL (encL (encL PyData.int)) lv) := by
  refine (sm_L (n := 261) (k := 2) (m := 3) (fun ps hp => ?_) h.1).imp (by decide) (by decide)
  refine (sm_L (n := 65) (k := 1) (m := 4) (fun p hq => ?_) (h.2 ps hp).1).imp (by decide) (by decide)
  exact (sm_ints (m := 64) (fun x hx => by have := ((h.2 ps hp).2 p hq).2 x hx; unfold InL at this; omega) ((h.2 ps hp).2 p hq).1).imp (by decide) (by decide)
theorem rep_in {P : Int → Prop} {x k : Int} (h : P x) : ∀ y ∈ repL [x] k, P y := fun y hy => by
  unfold repL at hy
  obtain ⟨l, hl, hy⟩ := List.mem_flatten.mp hy
  rw [(List.mem_replicate.mp hl).2] at hy
  rw [List.mem_singleton.mp hy]
  exact h
theorem rep_len1 {x k : Int} : (repL [x] k).length = k.toNat := by
  unfold repL
  simp
theorem block_gv (cell : Int) (h : 0 ≤ cell) : Gv (F__law_block cell) GoodB := by
  unfold F__law_block
  refine Gv.bnd fun kind hk => Gv.ite (fun _ => .ok ⟨(sm_T1 (sm_str (by decide +kernel))).show, .inl rfl⟩) fun _ => Gv.bnd fun ch hch => Gv.bnd fun sz hsz => Gv.bind (digits_gv _ _ _ (by decide) (by decide) (by decide) (by decide)) fun ds hd => Gv.grd ⟨by split <;> omega, by split <;> omega⟩ (Gv.bind (Gv.forS (P := fun i lv => lv.length = i ∧ ∀ ps ∈ lv, ps.length ≤ 4 ∧ ∀ p ∈ ps, p.length ≤ 64 ∧ ∀ l ∈ p, InL l) ⟨rfl, fun x hx => by cases hx⟩ fun i x s hx p => ?_) fun lv hl => ?_)
  · have hi := rng_at hx
    have hi2 : i < 3 := by have := hi.2; split at this <;> omega
    unfold F__law_block_b1
    refine Gv.bnd fun c hc => Gv.bnd fun l hl => ?_
    have hc1 : 0 ≤ c ∧ c ≤ 4 := by rw [hc]; split <;> decide
    have hl1 : 0 ≤ l ∧ l ≤ 64 := by rw [hl]; split <;> decide
    have hs : s.length = i := p.1
    have K : ∀ c l : Int, (0 ≤ c ∧ c ≤ 4) → (0 ≤ l ∧ l ≤ 64) → Gv (F__law_block_k2 ds s x c l) (fun lv => lv.length = i + 1 ∧ ∀ ps ∈ lv, ps.length ≤ 4 ∧ ∀ p ∈ ps, p.length ≤ 64 ∧ ∀ l ∈ p, InL l) := fun c l h1 h2 =>
      (k2_gv ds s x c l ⟨by have := hd.1; omega, hd.2⟩ h1 h2 (by omega)).imp fun v ⟨ps, e, a, b⟩ => by
        subst e
        refine ⟨by rw [List.length_append, hs]; rfl, fun q hq => ?_⟩
        rcases List.mem_append.mp hq with z | z
        · exact p.2 q z
        · rw [List.mem_singleton.mp z]; exact ⟨a, b⟩
    refine Gv.bind (P := fun s : Int × Int => (0 ≤ s.1 ∧ s.1 ≤ 4) ∧ 0 ≤ s.2 ∧ s.2 ≤ 64) ?_ fun s hs => K s.1 s.2 hs.1 hs.2
    exact Gv.ite (fun _ => Gv.ite (fun _ => .ok ⟨by decide, by decide⟩) fun _ => .ok ⟨hc1, hl1⟩) fun _ => .ok ⟨hc1, hl1⟩
  · have G : GoodL lv := ⟨by rw [hl.1, rng_len]; split <;> decide, hl.2⟩
    unfold F__law_block_r1
    refine Gv.ite (fun _ => Gv.grd ?_ (.ok ⟨?_, .inr ⟨"intra", _, _, lv, .inl rfl, rfl, G⟩⟩)) fun _ => .ok ⟨?_, .inr ⟨"inter", _, _, lv, .inr rfl, rfl, G⟩⟩
    · split <;> (refine ⟨by decide, by decide, ?_⟩; show 1 * _ ≤ _; decide)
    · refine Sm.show (n := 1100) (k := 4) ?_
      refine (sm_T4 (sm_i (.inl rfl)) (sm_ints (m := 4) (rep_in (by omega)) ?_) sm_z (sm_levels G)).imp (by decide) (by decide)
      rw [rep_len1]
      split <;> decide
    · refine Sm.show (n := 1100) (k := 4) ?_
      refine (sm_T4 (sm_i (.inr rfl)) (sm_L (n := 10) (k := 2) (m := 1) (fun x hx => ?_) (Nat.le_refl _)) (sm_int ⟨by show _ < sz; omega, by show sz < _; omega⟩) (sm_levels G)).imp (by decide) (by decide)
      rw [List.mem_singleton.mp hx]
      exact (sm_T4 sm_z sm_z (sm_T2 (sm_int ⟨by show _ < cell % 9; omega, by show cell % 9 < _; omega⟩) sm_z) sm_none).imp (by decide) (by decide)
/-! ### prices -/
def g3 (p : Int) (l : List Int) : Int := p + (l.map pw).sum
def g2 (p : Int) (l : List (List Int)) : Int := l.foldl g3 p
theorem sum_filter : ∀ l : List Int, (l.filterMap fun x => if x = 0 then none else some (2 * ((PySem.Builtin.Int.intBits (if x < 0 then -x else x) : Nat) : Int) + 1)).sum = (l.map pw).sum
  | [] => rfl
  | x :: r => by
    rw [List.filterMap_cons, List.map_cons, List.sum_cons]
    by_cases h : x = 0
    · rw [if_pos h]
      show (List.filterMap _ r).sum = _
      rw [sum_filter r]
      unfold pw
      rw [if_pos h]
      omega
    · rw [if_neg h]
      show (_ :: List.filterMap _ r).sum = _
      rw [List.sum_cons, sum_filter r]
      unfold pw
      rw [if_neg h]
      rfl
def Lc (p : List Int) : Prop := p.length ≤ 64 ∧ ∀ l ∈ p, InL l
theorem b2_eq (p : Int) (l : List Int) (h : Lc l) : F_block_price_b2 p l = .ok (g3 p l) := by
  unfold F_block_price_b2
  rw [mapF_pure (g := fun x => if x = 0 then none else some (2 * ((PySem.Builtin.Int.intBits (if x < 0 then -x else x) : Nat) : Int) + 1)) (fun x _ => ?_) (by have := h.1; simp; omega), bind_ok, bnd_eq, List.nil_append, sum_filter]
  · rfl
  · unfold F_block_price_c3
    show noEr (if x = 0 then _ else _) = _
    split <;> rfl
theorem b5_eq (p : Int) (l : List Int) (h : Lc l) : F_block_price_b5 p l = .ok (g3 p l) := b2_eq p l h
theorem b1_eq (p : Int) (l : List (List Int)) (h : ∀ q ∈ l, Lc q) : F_block_price_b1 p l = .ok (g2 p l) := by
  unfold F_block_price_b1
  rw [forS_pure (g := g3) (fun s x hx => b2_eq s x (h x hx)), bind_ok]
  rfl
theorem b4_eq (p : Int) (l : List (List Int)) (h : ∀ q ∈ l, Lc q) : F_block_price_b4 p l = .ok (g2 p l) := b1_eq p l h
def kp (k : Str) : Int := if k = "skip" then 0 else if k = "intra" then 1 else 3
def lvOf (d : PyData) : List (List (List Int)) := (cL (cL (cL cI))).dec (dGet d 3)
theorem price_eq (k : Str) (hk : k = "intra" ∨ k = "inter") (a b : PyData) (lv : List (List (List Int))) (h : GoodL lv) : F_block_price (.tuple [.str k, a, b, encL (encL (encL PyData.int)) lv]) = .ok (lv.foldl g2 (kp k)) := by
  have e : (cL (cL (cL cI))).dec (dGet (.tuple [.str k, a, b, encL (encL (encL PyData.int)) lv]) 3) = lv := (cL (cL (cL cI))).de lv
  have o : (cL (cL (cL cI))).ok (dGet (.tuple [.str k, a, b, encL (encL (encL PyData.int)) lv]) 3) = true := (cL (cL (cL cI))).oke lv
  have hs : ∀ x ∈ lv, ∀ q ∈ x, Lc q := fun x hx q hq => (h.2 x hx).2 q hq
  have hp : (dictS ([("skip", 0), ("intra", 1), ("inter", 3)] : List (Str × Int)) k) = kp k := by rcases hk with rfl | rfl <;> decide +kernel
  have hh : hasS ([("skip", 0), ("intra", 1), ("inter", 3)] : List (Str × Int)) k = true := by rcases hk with rfl | rfl <;> decide +kernel
  have hn : ¬ V.str k = V.str (("skip" : Str)) := by rcases hk with rfl | rfl <;> decide +kernel
  refine Gv.get (Gv.grd rfl (Gv.grd rfl (Gv.grd hh (Gv.bnd fun p hpp => Gv.grd rfl (Gv.grd rfl (Gv.neg hn (Gv.grd rfl (Gv.grd o ?_))))))))
  rw [e, forS_pure (g := g2) (fun s x hx => b4_eq s x (hs x hx)), bind_ok]
  refine .ok ?_
  rw [hpp]
  exact congrArg (fun z => lv.foldl g2 z) hp
theorem price_skip : F_block_price (.tuple [.str "skip"]) = .ok 0 := Gv.get (Gv.grd rfl (Gv.grd rfl (Gv.grd (by decide +kernel) (Gv.bnd fun p hp => Gv.grd rfl (Gv.grd rfl (Gv.pos rfl (.ok (by rw [hp]; decide +kernel))))))))
theorem cnt_eq (w p : Int) (h0 : 0 ≤ w) (h1 : w ≤ 1000000) : Gv (forS (rng 0 (Int.toNat 30)) p (fun s x => F__law_price_b5 w s x)) (fun v => v = p + 2 * (if w = 0 then 0 else (bl w : Int))) := by
  refine (Gv.forS (P := fun i s => s = p + 2 * (if w = 0 then 0 else (min i (bl w) : Nat))) (by simp) fun i x s hx q => ?_).imp fun v q => ?_
  · obtain ⟨rfl, hi⟩ := rng_at hx
    unfold F__law_price_b5
    rw [show (0 : Int) + (i : Int) = i by omega, Int.toNat_natCast]
    refine Gv.grd ⟨by omega, by have : i < 30 := hi; omega, one_4096.1, one_4096.2⟩ ?_
    have hp := powp i
    by_cases hw : w = 0
    · rw [if_pos hw] at q
      refine Gv.ite (fun c => by omega) fun _ => .ok ?_
      rw [if_pos hw]
      exact q
    · rw [if_neg hw] at q
      have hb := bl_in (v := w) (by omega)
      refine Gv.ite (fun c => Gv.bnd fun y hy => .ok ?_) fun c => .ok ?_
      · rw [if_neg hw]
        have : i < bl w := by
          rcases Nat.lt_or_ge i (bl w) with z | z
          · exact z
          · have := pow_mono z
            omega
        omega
      · rw [if_neg hw]
        have : bl w ≤ i := by
          rcases Nat.lt_or_ge i (bl w) with z | z
          · have := pow_mono (i := i) (w := bl w - 1) (by omega)
            omega
          · exact z
        omega
  · rw [rng_len] at q
    by_cases hw : w = 0
    · rw [if_pos hw] at q ⊢; exact q
    · rw [if_neg hw] at q ⊢
      have : bl w ≤ 30 := bl_small (by omega) (by have e : (2 : Int) ^ 30 = 1073741824 := by decide
                                                  omega)
      rw [q, Nat.min_eq_right (by exact this)]
theorem l3_eq (p l : Int) (h : InL l) : F__law_price_b3 p l = .ok (p + pw l) := by
  unfold F__law_price_b3
  refine Gv.get (Gv.bnd fun w hw => ?_)
  unfold InL at h
  have hw0 : 0 ≤ w ∧ w ≤ 1000000 := by rw [hw]; split <;> omega
  refine Gv.bind (P := fun s => s = p + (if w = 0 then 0 else 1)) (Gv.ite (fun c => Gv.bnd fun y hy => .ok (by rw [if_neg (by omega)]; exact hy)) fun c => .ok (by rw [if_pos (by omega)]; omega)) fun s hs => ?_
  unfold F__law_price_k4
  refine Gv.bind (cnt_eq w s hw0.1 hw0.2) fun v hv => ?_
  unfold F__law_price_r5
  refine .ok ?_
  unfold pw
  by_cases z : l = 0
  · rw [if_pos z]
    have : w = 0 := by rw [hw]; split <;> omega
    rw [if_pos this] at hs hv
    omega
  · rw [if_neg z]
    have : w ≠ 0 := by rw [hw]; split <;> omega
    rw [if_neg this] at hs hv
    rw [← hw]
    omega
theorem foldl_pw : ∀ (l : List Int) (p : Int), l.foldl (fun p x => p + pw x) p = g3 p l
  | [], p => by unfold g3; simp
  | x :: r, p => by
    rw [List.foldl_cons, foldl_pw r]
    unfold g3
    rw [List.map_cons, List.sum_cons]
    omega
theorem l2_eq (p : Int) (l : List Int) (h : Lc l) : F__law_price_b2 p l = .ok (g3 p l) := by
  unfold F__law_price_b2
  rw [forS_pure (g := fun p x => p + pw x) (fun s x hx => l3_eq s x (h.2 x hx)), bind_ok, foldl_pw]
  rfl
theorem l1_eq (p : Int) (l : List (List Int)) (h : ∀ q ∈ l, Lc q) : F__law_price_b1 p l = .ok (g2 p l) := by
  unfold F__law_price_b1
  rw [forS_pure (g := g3) (fun s x hx => l2_eq s x (h x hx)), bind_ok]
  rfl
theorem l6_eq (p : Int) (l : List (List Int)) (h : ∀ q ∈ l, Lc q) : F__law_price_b6 p l = .ok (g2 p l) := l1_eq p l h
theorem lprice_eq (k : Str) (hk : k = "intra" ∨ k = "inter") (a b : PyData) (lv : List (List (List Int))) (h : GoodL lv) : F__law_price (.tuple [.str k, a, b, encL (encL (encL PyData.int)) lv]) = .ok (lv.foldl g2 (kp k)) := by
  have e : (cL (cL (cL cI))).dec (dGet (.tuple [.str k, a, b, encL (encL (encL PyData.int)) lv]) 3) = lv := (cL (cL (cL cI))).de lv
  have o : (cL (cL (cL cI))).ok (dGet (.tuple [.str k, a, b, encL (encL (encL PyData.int)) lv]) 3) = true := (cL (cL (cL cI))).oke lv
  have hs : ∀ x ∈ lv, ∀ q ∈ x, Lc q := fun x hx q hq => (h.2 x hx).2 q hq
  have hn : ¬ V.str k = V.str (("skip" : Str)) := by rcases hk with rfl | rfl <;> decide +kernel
  refine Gv.get (Gv.grd rfl (Gv.grd rfl (Gv.neg hn (Gv.grd rfl (Gv.grd rfl ?_)))))
  rcases hk with rfl | rfl
  · refine Gv.pos rfl (Gv.grd rfl (Gv.grd o ?_))
    rw [e, forS_pure (g := g2) (fun s x hx => l1_eq s x (hs x hx)), bind_ok]
    exact .ok rfl
  · refine Gv.neg (by show ¬ V.str "inter" = V.str "intra"; decide +kernel) (Gv.grd rfl (Gv.grd o ?_))
    rw [e, forS_pure (g := g2) (fun s x hx => l6_eq s x (hs x hx)), bind_ok]
    exact .ok rfl
theorem lprice_skip : F__law_price (.tuple [.str "skip"]) = .ok 0 := Gv.get (Gv.grd rfl (Gv.grd rfl (Gv.pos rfl (.ok rfl))))
/-! ### vectors -/
def cl (x : Int) : Int := max (-1023) (min 1023 x)
theorem clip_eq (x : Int) : F__clip_component x = .ok (cl x) := by
  unfold F__clip_component F_clip
  rw [bind_ok]
  refine congrArg Rx.ok ?_
  unfold cl
  split <;> split at * <;> omega
theorem near_eq (x y : Int) : F_near_vectors (x, y) = .ok [(cl x, cl y), (cl (x - 4), cl y), (cl (x + 4), cl y), (cl x, cl (y - 4)), (cl x, cl (y + 4))] := by
  unfold F_near_vectors
  rw [mapA_pure0 (g := fun p : Int × Int => (cl p.1, cl p.2)) (fun p _ => ?_) (by show 5 ≤ 1000000; decide), bind_ok]
  · rfl
  · unfold F_near_vectors_c1 F_clip_vector
    rw [clip_eq, clip_eq]
    rfl
theorem lnear_eq (x y : Int) : F__law_near x y = .ok [(cl x, cl y), (cl (x - 4), cl y), (cl (x + 4), cl y), (cl x, cl (y - 4)), (cl x, cl (y + 4))] := by
  unfold F__law_near
  have cc : ∀ z : Int, (if (if z < 1023 then z else 1023) > (-1023) then (if z < 1023 then z else 1023) else (-1023)) = cl z := fun z => by unfold cl; split <;> split at * <;> omega
  refine Gv.get (Gv.bind (Gv.forS (P := fun i s => s = ((([(0, 0), ((-4), 0), (4, 0), (0, (-4)), (0, 4)] : List (Int × Int)).take i).map fun q => (cl (x + q.1), cl (y + q.2)))) rfl fun i q s hq e => ?_) fun v e => ?_)
  · have hi : i < 5 := get_len hq
    unfold F__law_near_b1
    refine Gv.grd ?_ (Gv.bnd fun z hz => .ok ?_)
    · rw [e, List.length_map, List.length_take]; omega
    · rw [hz, e, cc, cc, take_succ_get hq, List.map_append]
      rfl
  · subst e
    refine .ok ?_
    show [(cl (x + 0), cl (y + 0)), (cl (x + -4), cl (y + 0)), (cl (x + 4), cl (y + 0)), (cl (x + 0), cl (y + -4)), (cl (x + 0), cl (y + 4))] = _
    rw [Int.add_zero, Int.add_zero, show x + -4 = x - 4 by omega, show y + -4 = y - 4 by omega]
theorem k3_eq (x y : Int) : F_law_k3 x y = .ok (.go ()) := by
  unfold F_law_k3
  rw [near_eq, bind_ok, lnear_eq, bind_ok, if_pos rfl, forR_unit (fun p _ => rfl)]
  rfl
theorem b1_true (script : List Int) (k : Int) (h0 : 0 ≤ k) : F_law_b1 script k = .ok (.go ()) := by
  refine Gv.get ?_
  unfold F_law_b1
  refine Gv.bind (cell_gv script k h0) fun v hv => Gv.bnd fun cell hc => Gv.bind (block_gv cell (by omega)) fun d hd => ?_
  obtain ⟨hs, hd⟩ := hd
  have hq : dSeq d = true := by rcases hd with rfl | ⟨_, _, _, _, _, rfl, _⟩ <;> rfl
  have hp : ∃ z, F_block_price d = .ok z ∧ F__law_price d = .ok z := by
    rcases hd with rfl | ⟨k, a, b, lv, hk, rfl, g⟩
    · exact ⟨0, price_skip, lprice_skip⟩
    · exact ⟨_, price_eq k hk a b lv g, lprice_eq k hk a b lv g⟩
  obtain ⟨z, e1, e2⟩ := hp
  refine Gv.grd ⟨hq, hs⟩ (Gv.bind_eq e1 (Gv.bind_eq (a := true) rfl (Gv.pos rfl (Gv.bind_eq e2 (Gv.pos rfl (Gv.grd ⟨hq, hs⟩ (Gv.pos rfl (Gv.bnd fun x hx => Gv.bnd fun y hy => ?_))))))))
  refine Gv.bind (P := fun _ => True) (Gv.ite (fun _ => Gv.bnd fun z _ => .ok trivial) fun _ => .ok trivial) fun s _ => ?_
  unfold F_law_k2
  refine Gv.bind (P := fun _ => True) (Gv.ite (fun _ => Gv.bnd fun z _ => .ok trivial) fun _ => .ok trivial) fun s2 _ => ?_
  rw [k3_eq]
  exact .ok rfl
theorem law_true (xs : List Int) (h : xs.length ≤ 63) : F_law xs = .ok true := by
  unfold F_law
  rw [grd_pos ⟨by split <;> omega, by split <;> omega⟩, forR_unit (fun k hk => b1_true xs k (rng_mem hk).1)]
  rfl

end Vx
namespace Vx
open PySem PySem.Spec PyProof.Rows L2
def topS (i : Nat) : Stmt := PySem.Challenge.pw_thaumatrope_k67_prices_and_near_vectors.main.body.getD i (.Pass ⟨0, 0, 0, 0⟩)
abbrev s__law_digits : Stmt := topS 12
abbrev s__law_level : Stmt := topS 14
abbrev s__law_block : Stmt := topS 15
abbrev s_block_price : Stmt := topS 8
abbrev s_clip : Stmt := topS 2
abbrev s__clip_component : Stmt := topS 5
abbrev s_clip_vector : Stmt := topS 4
abbrev s_near_vectors : Stmt := topS 9
abbrev s__law_cell : Stmt := topS 11
abbrev s__law_is_integer : Stmt := topS 13
abbrev s__law_price : Stmt := topS 16
abbrev s__law_near : Stmt := topS 17
abbrev s_law : Stmt := topS 18
structure Ads where
  t_PRICES : Addr
  z0 : Addr
def excA (AD : Ads) : Nat → Addr
  | _ => AD.z0
structure Txt (w : World) (K : PySem.W.Frag) (mg : Str → Option Value) (AD : Ads) : Prop where
  b_int : mg "int" = none
  b_range : mg "range" = none
  g_PRICES : ∃ u, mg "PRICES" = some u ∧ RelV (V.ref AD.t_PRICES) u
  kd_PRICES : KDS K w AD.t_PRICES ([("skip", 0), ("intra", 1), ("inter", 3)] : List (Str × Int))
  b_sum : mg "sum" = none
  b_abs : mg "abs" = none
  b_min : mg "min" = none
  b_max : mg "max" = none
  g_GREATEST_COMPONENT : ∃ u, mg "GREATEST_COMPONENT" = some u ∧ RelV (V.int 1023) u
  b_len : mg "len" = none
  b_isinstance : mg "isinstance" = none
  b_bool : mg "bool" = none
  b_repr : mg "repr" = none
  b_list : mg "list" = none
  b_tuple : mg "tuple" = none
abbrev pat__law_digits_0 : Pat := (3, [], fun vs _ => vs)
abbrev pats__law_digits : List Pat := [pat__law_digits_0]
abbrev pat__law_level_0 : Pat := (1, [], fun vs _ => vs)
abbrev pats__law_level : List Pat := [pat__law_level_0]
abbrev pat__law_block_0 : Pat := (1, [], fun vs _ => vs)
abbrev pats__law_block : List Pat := [pat__law_block_0]
abbrev pat_block_price_0 : Pat := (1, [], fun vs _ => vs)
abbrev pats_block_price : List Pat := [pat_block_price_0]
abbrev pat_clip_0 : Pat := (3, [], fun vs _ => vs)
abbrev pats_clip : List Pat := [pat_clip_0]
abbrev pat__clip_component_0 : Pat := (1, [], fun vs _ => vs)
abbrev pats__clip_component : List Pat := [pat__clip_component_0]
abbrev pat_clip_vector_0 : Pat := (2, [], fun vs _ => vs)
abbrev pats_clip_vector : List Pat := [pat_clip_vector_0]
abbrev pat_near_vectors_0 : Pat := (1, [], fun vs _ => vs)
abbrev pats_near_vectors : List Pat := [pat_near_vectors_0]
abbrev pat__law_cell_0 : Pat := (2, [], fun vs _ => vs)
abbrev pats__law_cell : List Pat := [pat__law_cell_0]
abbrev pat__law_is_integer_0 : Pat := (1, [], fun vs _ => vs)
abbrev pats__law_is_integer : List Pat := [pat__law_is_integer_0]
abbrev pat__law_price_0 : Pat := (1, [], fun vs _ => vs)
abbrev pats__law_price : List Pat := [pat__law_price_0]
abbrev pat__law_near_0 : Pat := (2, [], fun vs _ => vs)
abbrev pats__law_near : List Pat := [pat__law_near_0]
abbrev pats_law : List Pat := []
def sp__law_digits (K : PySem.W.Frag) (AD : Ads) : Sp := fun vs H Q E => ∃ (G : Hp) (cell' : Int) (base' : Int) (most' : Int), vs = [.int cell', .int base', .int most'] ∧ Same G H ∧ cW (F__law_digits cell' base' most') (fun v => ∀ p H', H p = none → Same H H' → H' p = some (.lst (v.map V.int)) → Q (.ref p) H') (fun e => ∀ H', Same H H' → E (.ref (excA AD e)) none H')
def sp__law_level (K : PySem.W.Frag) (AD : Ads) : Sp := fun vs H Q E => ∃ (G : Hp) (digit' : Int), vs = [.int digit'] ∧ Same G H ∧ cW (F__law_level digit') (fun v => Q (.int v) H) (fun e => E (.ref (excA AD e)) none H)
def sp__law_block (K : PySem.W.Frag) (AD : Ads) : Sp := fun vs H Q E => ∃ (G : Hp) (cell' : Int), vs = [.int cell'] ∧ Same G H ∧ cW (F__law_block cell') (fun v => ∀ u H' G', Same H H' → Same G G' → Same G' H' → (∀ b, H b ≠ none → G b = none → G' b = none) → Rp G' u (encD v) → Q u H') (fun e => ∀ H', Same H H' → E (.ref (excA AD e)) none H')
def sp_block_price (K : PySem.W.Frag) (AD : Ads) : Sp := fun vs H Q E => ∃ (G : Hp) (v_block : V) (block' : PyData), vs = [v_block] ∧ Same G H ∧ Rp (hideL [] H) v_block (encD block') ∧ cW (F_block_price block') (fun v => ∀ H', Same H H' → Q (.int v) H') (fun e => ∀ H', Same H H' → E (.ref (excA AD e)) none H')
def sp_clip (K : PySem.W.Frag) (AD : Ads) : Sp := fun vs H Q E => ∃ (G : Hp) (value' : Int) (low' : Int) (high' : Int), vs = [.int value', .int low', .int high'] ∧ Same G H ∧ cW (F_clip value' low' high') (fun v => Q (.int v) H) (fun e => E (.ref (excA AD e)) none H)
def sp__clip_component (K : PySem.W.Frag) (AD : Ads) : Sp := fun vs H Q E => ∃ (G : Hp) (component' : Int), vs = [.int component'] ∧ Same G H ∧ cW (F__clip_component component') (fun v => Q (.int v) H) (fun e => E (.ref (excA AD e)) none H)
def sp_clip_vector (K : PySem.W.Frag) (AD : Ads) : Sp := fun vs H Q E => ∃ (G : Hp) (x' : Int) (y' : Int), vs = [.int x', .int y'] ∧ Same G H ∧ cW (F_clip_vector x' y') (fun v => ∀ u H' G', Same H H' → Same G G' → Same G' H' → (∀ b, H b ≠ none → G b = none → G' b = none) → Rp G' u ((encT2 PyData.int PyData.int) v) → Q u H') (fun e => ∀ H', Same H H' → E (.ref (excA AD e)) none H')
def sp_near_vectors (K : PySem.W.Frag) (AD : Ads) : Sp := fun vs H Q E => ∃ (G : Hp) (v_vector : V) (vector' : (Int × Int)), vs = [v_vector] ∧ Same G H ∧ Rp (hideL [] H) v_vector ((encT2 PyData.int PyData.int) vector') ∧ cW (F_near_vectors vector') (fun v => ∀ u H' G', Same H H' → Same G G' → Same G' H' → (∀ b, H b ≠ none → G b = none → G' b = none) → Rp G' u ((encL (encT2 PyData.int PyData.int)) v) → Q u H') (fun e => ∀ H', Same H H' → E (.ref (excA AD e)) none H')
def sp__law_cell (K : PySem.W.Frag) (AD : Ads) : Sp := fun vs H Q E => ∃ (G : Hp) (a_script : Addr) (script' : List Int) (k' : Int), vs = [.ref a_script, .int k'] ∧ Same G H ∧ SqL K H a_script ((script' : List Int).map V.int) ∧ cW (F__law_cell script' k') (fun v => Q (.int v) H) (fun e => E (.ref (excA AD e)) none H)
def sp__law_is_integer (K : PySem.W.Frag) (AD : Ads) : Sp := fun vs H Q E => ∃ (G : Hp) (actual' : Int), vs = [.int actual'] ∧ Same G H ∧ cW (F__law_is_integer actual') (fun v => Q (.bl v) H) (fun e => E (.ref (excA AD e)) none H)
def sp__law_price (K : PySem.W.Frag) (AD : Ads) : Sp := fun vs H Q E => ∃ (G : Hp) (v_block : V) (block' : PyData), vs = [v_block] ∧ Same G H ∧ Rp (hideL [] H) v_block (encD block') ∧ cW (F__law_price block') (fun v => ∀ H', Same H H' → Q (.int v) H') (fun e => ∀ H', Same H H' → E (.ref (excA AD e)) none H')
def sp__law_near (K : PySem.W.Frag) (AD : Ads) : Sp := fun vs H Q E => ∃ (G : Hp) (x' : Int) (y' : Int), vs = [.int x', .int y'] ∧ Same G H ∧ cW (F__law_near x' y') (fun v => ∀ u H' G', Same H H' → Same G G' → Same G' H' → (∀ b, H b ≠ none → G b = none → G' b = none) → Rp G' u ((encL (encT2 PyData.int PyData.int)) v) → Q u H') (fun e => ∀ H', Same H H' → E (.ref (excA AD e)) none H')
def sp_law (K : PySem.W.Frag) (AD : Ads) : Sp := fun vs H Q E => ∃ (a_script : Addr) (script : List Int), vs = [.ref a_script] ∧ SqL K H a_script (script.map V.int) ∧ cW (F_law script) (fun v => v = true) (fun _ => False) ∧ ∀ H', Q (.bl true) H'
section
variable {P : Program} {w : World} {K : PySem.W.Frag} {mg : Str → Option Value} {base : Heap} {AD : Ads}
abbrev N__law_digits : List Str := ["cell", "base", "most", "digits", "large", "k"]
theorem sc__law_digits : FnScope N__law_digits ["cell", "base", "most"] (defScope s__law_digits) := ⟨rfl, rfl, rfl, by decide +kernel, rfl, by decide +kernel, by decide +kernel⟩
theorem ok__law_digits (D : DefX K mg "_law_digits" s__law_digits ["cell", "base", "most"] pats__law_digits) (T : Txt w K mg AD)  : CalX P w K mg base 1 "_law_digits" (sp__law_digits K AD) pats__law_digits := by
  refine D.ok sc__law_digits (fun vs H Q E h => ?_) (fun f cdv A_ outer s H vs Q E hr h => ?_)
  · obtain ⟨G, cell', base', most', rfl, _⟩ := h
    rfl
  · obtain ⟨G, cell', base', most', rfl, sG, hw⟩ := h
    refine ⟨_, (pss_cons (ps_set (i := 3) sc__law_digits.nd rfl (Or.inl rfl) (pe_lst pa_nil))
      (pss_cons (ps_set (i := 4) sc__law_digits.nd rfl (Or.inl rfl) (pe_cmp (pc_ge (pv 0) (pe_op op_pow pe_int pe_int))))
      (pss_cons (ps_for (passes_of rfl) rfl (pi_range1 rfl T.b_range (pa_cons (pv 2) pa_nil)) (pg_name (i := 5) sc__law_digits.nd rfl (Or.inl rfl)) (pss_one (ps_if (pt_val (pv 4)) (pss_cons (ps_expr (pe_bm PySem.F.plainAttrs_list PySem.F.slot_list_append PySem.F.type_list_append mt_append (pv 3) (pa_cons (pe_op op_mod (pe_callTy call_int1 (by rfl) T.b_int (by decide +kernel) (pa_cons (pv 0) pa_nil)) (pv 1)) pa_nil)))
      (pss_one (ps_set (i := 0) sc__law_digits.nd rfl (Or.inl rfl) (pe_op op_fdivW (pv 0) (pv 1))))) (pss_one (ps_expr (pe_bm PySem.F.plainAttrs_list PySem.F.slot_list_append PySem.F.type_list_append mt_append (pv 3) (pa_cons (pe_op op_mod (pe_op op_mod (pe_callTy call_int1 (by rfl) T.b_int (by decide +kernel) (pa_cons (pe_op op_add (pe_op op_add (pe_op op_mul (pv 0) pe_int) (pe_op op_mul (pe_op op_mul (pe_op op_add (pv 5) pe_int) (pe_op op_add (pv 5) pe_int)) pe_int)) (pe_op op_mul (pe_op op_fdivW (pv 0) pe_int) (pv 5))) pa_nil)) pe_int) (pv 1)) pa_nil)))))))
      (pss_one (ps_ret (pv 3)))))), ?_⟩
    obtain ⟨KK, EE, hK0, hE, hw⟩ := cW_gen hw
    have S0 := Sep.startG sG
    unfold F__law_digits at hw
    refine ⟨(by show 0 ≤ sizeLine; decide), fun p1 n2 => ?_⟩
    generalize g3 : upd H p1 _ = H4
    obtain ⟨e5, h6⟩ := gen_new n2 g3
    have h7 : H4 p1 = some (.lst ((([] : (List Int)) : (List Int)).map V.int)) := h6
    have fr8 := S0.free n2
    have S9 := S0.new n2 e5 h7 fr8
    refine ⟨_, rfl, _, _, rfl, rfl, ⟨by decide, by decide, by decide⟩, _, _, rfl, rfl, ?_⟩
    have hw := cW_bnd hw
    obtain ⟨g11, hw⟩ := cW_grd hw
    obtain ⟨K14, hK15, hw⟩ := cW_push hw
    refine ⟨_, rfl, _, rfl, g11.1, g11.2, for_range (lo := 0) (n := Int.toNat (most')) (fun i σ H' => ∃ (cell_16 : Int) (digits_17 : (List Int)) (u18 : Option V) (G' : Hp), σ = [some (V.int cell_16), some (V.int (base')), some (V.int (most')), some (V.ref p1), some (V.bl (decide (((10 : Int) ^ Int.toNat 18) ≤ cell'))), u18] ∧ Same G G' ∧ Sep [] H G G' H' [p1] ∧ H' p1 = some (.lst ((digits_17 : (List Int)).map V.int)) ∧ cW (forS (List.drop i (rng (0) (Int.toNat (most')))) (cell_16, digits_17) (fun s x => F__law_digits_b1 (base') (decide (((10 : Int) ^ Int.toNat 18) ≤ cell')) (s.1) (s.2) x)) K14 EE) ?_ ?_ ?_⟩
    · exact ⟨(cell'), (([] : (List Int))), _, _, rfl, (Same.refl _), S9, h7, hw⟩
    · intro i σ H19 hi hw
      obtain ⟨cell_16, digits_17, u18, G22, rfl, eG23, S20, h21, hw⟩ := hw
      have hw := cW_forS (rng_get hi) hw
      generalize (0 + (i : Int)) = x24 at hw ⊢
      have hw : cW (F__law_digits_b1 (base') (decide (((10 : Int) ^ Int.toNat 18) ≤ cell')) (cell_16) (digits_17) (x24)) _ EE := hw
      unfold F__law_digits_b1 at hw
      obtain ⟨K27, hK28, hw⟩ := cW_name hw
      refine ⟨_, rfl, _, rfl, ?_⟩
      refine iteB (fun c30 => ?_) (fun c30 => ?_)
      · have hw := cW_pos c30 hw
        refine ⟨_, rfl, (.inl ⟨rfl, _, SqL.of h21⟩), _, rfl, .inl ⟨_, rfl, ?_⟩⟩
        obtain ⟨g31, hw⟩ := cW_grd hw
        obtain ⟨g32, hw⟩ := cW_grd hw
        refine ⟨_, rfl, _, _, rfl, rfl, g31, _, _, _, rfl, rfl, h21, (app_lenM g32), ?_⟩
        generalize g33 : upd H19 p1 _ = H34
        obtain ⟨x35, h36⟩ := gen_mut g33
        have h37 : H34 p1 = some (.lst (((digits_17) ++ [(cell_16 % base')] : (List Int)).map V.int)) := snoc_map h36
        have S38 := S20.mut1 x35 (.head _) h37
        have hw := cW_bnd hw
        obtain ⟨g40, hw⟩ := cW_grd hw
        refine ⟨_, rfl, _, rfl, _, _, rfl, rfl, (divW_small g40.1 g40.2), ?_⟩
        have hw := cW_bnd hw
        have hw := cW_ok hw
        have hw := hK28 _ hw
        exact ⟨((cell_16 / base')), ((digits_17) ++ [(cell_16 % base')]), _, _, rfl, eG23, S38, h37, hw⟩
      · have hw := cW_negB c30 hw
        obtain ⟨g42, hw⟩ := cW_grd hw
        obtain ⟨g43, hw⟩ := cW_grd hw
        refine ⟨_, rfl, (.inl ⟨rfl, _, SqL.of h21⟩), _, rfl, _, _, rfl, rfl, (.inr ⟨by decide, by decide⟩), _, rfl, _, _, rfl, rfl, _, rfl, _, _, rfl, rfl, _, _, rfl, rfl, g42, _, _, rfl, rfl, (.inr ⟨by decide, by decide⟩), _, _, rfl, rfl, _, rfl, _, _, rfl, rfl, (divW_lit (by decide) (by decide)), _, rfl, _, _, rfl, rfl, g43, _, _, rfl, rfl, .inl ⟨_, rfl, ?_⟩⟩
        obtain ⟨g44, hw⟩ := cW_grd hw
        obtain ⟨g45, hw⟩ := cW_grd hw
        refine ⟨_, _, rfl, rfl, (show (0 : Int) < 2147483647 by decide), _, rfl, _, _, rfl, rfl, g44, _, _, _, rfl, rfl, h21, (app_lenM g45), ?_⟩
        generalize g46 : upd H19 p1 _ = H47
        obtain ⟨x48, h49⟩ := gen_mut g46
        have h50 : H47 p1 = some (.lst (((digits_17) ++ [(((((cell_16 * 48271) + (((x24 + 1) * (x24 + 5)) * 69621)) + ((cell_16 / 97) * x24)) % 2147483647) % base')] : (List Int)).map V.int)) := snoc_map h49
        have S51 := S20.mut1 x48 (.head _) h50
        have hw := cW_bnd hw
        have hw := cW_ok hw
        have hw := hK28 _ hw
        exact ⟨(cell_16), ((digits_17) ++ [(((((cell_16 * 48271) + (((x24 + 1) * (x24 + 5)) * 69621)) + ((cell_16 / 97) * x24)) % 2147483647) % base')]), _, _, rfl, eG23, S51, h50, hw⟩
    · intro σ H53 hw
      obtain ⟨cell_16, digits_17, u18, G56, rfl, eG57, S54, h55, hw⟩ := hw
      have hw := hK15 _ (cW_forS0 (rng_len _ _).symm hw)
      have hw : cW (F__law_digits_r1  (cell_16) (digits_17)) _ EE := hw
      unfold F__law_digits_r1 at hw
      refine ⟨_, rfl, ?_⟩
      have hw := cW_ok hw
      exact hK0 _ hw _ _ fr8 S54.b0 h55

abbrev N__law_level : List Str := ["digit", "worth"]
theorem sc__law_level : FnScope N__law_level ["digit"] (defScope s__law_level) := ⟨rfl, rfl, rfl, by decide +kernel, rfl, by decide +kernel, by decide +kernel⟩
theorem ok__law_level (D : DefX K mg "_law_level" s__law_level ["digit"] pats__law_level) (T : Txt w K mg AD)  : CalX P w K mg base 1 "_law_level" (sp__law_level K AD) pats__law_level := by
  refine D.ok sc__law_level (fun vs H Q E h => ?_) (fun f cdv A_ outer s H vs Q E hr h => ?_)
  · obtain ⟨G, digit', rfl, _⟩ := h
    rfl
  · obtain ⟨G, digit', rfl, sG, hw⟩ := h
    refine ⟨_, (pss_cons (ps_if (pt_cmp (pc_eqI (pe_op op_mod (pv 0) pe_int) pe_int)) (pss_one (ps_ret pe_int)) pss_nil)
      (pss_cons (ps_set (i := 1) sc__law_level.nd rfl (Or.inl rfl) (pe_op op_sub (pe_op op_add (pe_op op_shlW pe_int (pe_op op_mod (pe_op op_fdivW (pv 0) pe_int) pe_int)) (pe_op op_mod (pe_op op_fdivW (pv 0) pe_int) pe_int)) pe_int))
      (pss_cons (ps_if (pt_cmp (pc_eqI (pe_op op_mod (pe_op op_fdivW (pv 0) pe_int) pe_int) pe_int)) (pss_one (ps_ret (pe_op op_sub pe_int (pv 1)))) pss_nil)
      (pss_one (ps_ret (pv 1)))))), ?_⟩
    obtain ⟨KK, EE, hK0, hE, hw⟩ := cW_gen hw
    have S0 := Sep.startG sG
    unfold F__law_level at hw
    refine ⟨_, rfl, _, _, rfl, rfl, (show (0 : Int) < 3 by decide), _, _, rfl, rfl, _, rfl, ?_⟩
    refine iteD (fun c60 => ?_) (fun c60 => ?_)
    · have hw := cW_pos c60 hw
      have hw := cW_ok hw
      exact hK0 _ hw
    · have hw := cW_neg c60 hw
      obtain ⟨g61, hw⟩ := cW_grd hw
      refine ⟨_, rfl, _, _, rfl, rfl, (divW_lit (by decide) (by decide)), _, _, rfl, rfl, (show (0 : Int) < 19 by decide), _, _, rfl, rfl, (shl_side g61.1 g61.2.1 g61.2.2.1 g61.2.2.2), _, rfl, _, _, rfl, rfl, (divW_lit (by decide) (by decide)), _, _, rfl, rfl, (show (0 : Int) < 3 by decide), _, _, rfl, rfl, _, _, rfl, rfl, ?_⟩
      have hw := cW_bnd hw
      refine ⟨_, rfl, _, _, rfl, rfl, (divW_lit (by decide) (by decide)), _, _, rfl, rfl, (show (0 : Int) < 2 by decide), _, _, rfl, rfl, _, rfl, ?_⟩
      refine iteD (fun c63 => ?_) (fun c63 => ?_)
      · have hw := cW_pos c63 hw
        refine ⟨_, rfl, _, _, rfl, rfl, ?_⟩
        have hw := cW_ok hw
        exact hK0 _ hw
      · have hw := cW_neg c63 hw
        refine ⟨_, rfl, ?_⟩
        have hw := cW_ok hw
        exact hK0 _ hw

abbrev N__law_block : List Str := ["cell", "kind", "chroma", "size", "digits", "levels", "plane", "count", "length", "k", "j"]
theorem sc__law_block : FnScope N__law_block ["cell"] (defScope s__law_block) := ⟨rfl, rfl, rfl, by decide +kernel, rfl, by decide +kernel, by decide +kernel⟩
theorem ok__law_block (D : DefX K mg "_law_block" s__law_block ["cell"] pats__law_block) (T : Txt w K mg AD) (c__law_digits : CalX P w K mg base 1 "_law_digits" (sp__law_digits K AD) pats__law_digits) (c__law_level : CalX P w K mg base 1 "_law_level" (sp__law_level K AD) pats__law_level) : CalX P w K mg base 2 "_law_block" (sp__law_block K AD) pats__law_block := by
  refine D.ok sc__law_block (fun vs H Q E h => ?_) (fun f cdv A_ outer s H vs Q E hr h => ?_)
  · obtain ⟨G, cell', rfl, _⟩ := h
    rfl
  · obtain ⟨G, cell', rfl, sG, hw⟩ := h
    refine ⟨_, (pss_cons (ps_set (i := 1) sc__law_block.nd rfl (Or.inl rfl) (pe_op op_mod (pv 0) pe_int))
      (pss_cons (ps_if (pt_cmp (pc_eqI (pv 1) pe_int)) (pss_one (ps_ret (pe_tup (pa_cons pe_str pa_nil)))) pss_nil)
      (pss_cons (ps_set (i := 2) sc__law_block.nd rfl (Or.inl rfl) (pe_op op_mod (pe_op op_fdivW (pv 0) pe_int) pe_int))
      (pss_cons (ps_set (i := 3) sc__law_block.nd rfl (Or.inl rfl) (pe_op op_sub pe_int (pe_op op_mul pe_int (pe_op op_mod (pe_op op_fdivW (pv 0) pe_int) pe_int))))
      (pss_cons (ps_set (i := 4) sc__law_block.nd rfl (Or.inr rfl) (vx_callX c__law_digits pat__law_digits_0 (.head _) hr (by decide) (takes_of rfl rfl rfl rfl) rfl (pa_cons (pe_op op_fdivW (pv 0) pe_int) (pa_cons pe_int (pa_cons pe_int pa_nil))) pk_nil))
      (pss_cons (ps_set (i := 5) sc__law_block.nd rfl (Or.inl rfl) (pe_lst pa_nil))
      (pss_cons (ps_for (passes_of rfl) rfl (pi_range1 rfl T.b_range (pa_cons (pe_ifExp (pt_cmp (pc_eqI (pv 2) pe_int)) pe_int pe_int) pa_nil)) (pg_name (i := 6) sc__law_block.nd rfl (Or.inr rfl)) (pss_cons (ps_set (i := 7) sc__law_block.nd rfl (Or.inl rfl) (pe_ifExp (pt_cmp (pc_eqI (pv 3) pe_int)) pe_int pe_int))
      (pss_cons (ps_set (i := 8) sc__law_block.nd rfl (Or.inr rfl) (pe_ifExp (pt_cmp (pc_eqI (pv 3) pe_int)) pe_int pe_int))
      (C8.pss_cut (ps_if (PW.pt (pw_and (pt_cmp (pc_gt (pv 6) pe_int)) (pw_and1 (pt_cmp (pc_eqI (pv 2) pe_int))))) (pss_cons (ps_set (i := 7) sc__law_block.nd rfl (Or.inl rfl) pe_int)
      (pss_one (ps_set (i := 8) sc__law_block.nd rfl (Or.inr rfl) pe_int))) pss_nil)
      (pss_one (ps_expr (pe_bm PySem.F.plainAttrs_list PySem.F.slot_list_append PySem.F.type_list_append mt_append (pv 5) (pa_cons (pe_lc (own := [("k", 9)]) (g := gName 9) (by rfl) sc__law_block.nd (pi_range1 rfl T.b_range (pa_cons (pv 7) pa_nil)) (blkOk_by (own := [("k", 9)]) (N := N__law_block) (sc := defScope s__law_block) (by decide +kernel)) (fun _ _ _ _ _ => (pg_name (i := 9) sc__law_block.nd rfl (Or.inr rfl))) (fun _ _ _ _ _ => pts_nil) (fun _ _ _ _ _ => (pe_lc (own := [("j", 10)]) (g := gName 10) (by rfl) sc__law_block.nd (pi_range1 rfl T.b_range (pa_cons (pv 8) pa_nil)) (blk_relabel (blkOk_by (own := [("j", 10)]) (N := N__law_block) (by decide +kernel))) (fun _ _ _ _ _ => (pg_name (i := 10) sc__law_block.nd rfl (Or.inl rfl))) (fun _ _ _ _ _ => pts_nil) (fun _ _ _ _ _ => (vx_callX c__law_level pat__law_level_0 (.head _) hr (by decide) takes0 rfl (pa_cons (pe_ix (ix_listK (K := K)) (pv 4) (pe_op op_mod (pe_op op_add (pe_op op_add (pe_op op_mul pe_int (pv 6)) (pe_op op_mul pe_int (pv 9))) (pv 10)) pe_int) (fun _ _ => rfl)) pa_nil) pk_nil))))) pa_nil))))))))
      (pss_cons (ps_if (pt_cmp (pc_eqI (pv 1) pe_int)) (pss_one (ps_ret (pe_tup (pa_cons pe_str (pa_cons (pe_op op_rep (pe_lst (pa_cons (pe_op op_mod (pe_op op_fdivW (pv 0) pe_int) pe_int) pa_nil)) (pe_ifExp (pt_cmp (pc_eqI (pv 3) pe_int)) pe_int pe_int)) (pa_cons pe_int (pa_cons (pv 5) pa_nil))))))) pss_nil)
      (pss_one (ps_ret (pe_tup (pa_cons pe_str (pa_cons (pe_lst (pa_cons (pe_tup (pa_cons pe_int (pa_cons pe_int (pa_cons (pe_tup (pa_cons (pe_op op_mod (pv 0) pe_int) (pa_cons pe_int pa_nil))) (pa_cons pe_non pa_nil))))) pa_nil)) (pa_cons (pv 3) (pa_cons (pv 5) pa_nil))))))))))))))), ?_⟩
    obtain ⟨KK, EE, hK0, hE, hw⟩ := cW_gen hw
    have S0 := Sep.startG sG
    unfold F__law_block at hw
    refine ⟨_, rfl, _, _, rfl, rfl, (show (0 : Int) < 3 by decide), ?_⟩
    have hw := cW_bnd hw
    refine ⟨_, rfl, _, _, rfl, rfl, _, rfl, ?_⟩
    refine iteD (fun c65 => ?_) (fun c65 => ?_)
    · have hw := cW_pos c65 hw
      refine ⟨(by show 1 ≤ sizeLine; decide), fun p66 n67 => ?_⟩
      generalize g68 : upd H p66 _ = H69
      obtain ⟨e70, h71⟩ := gen_new n67 g68
      have h72 : H69 p66 = some (.tup [V.str (("skip" : Str))]) := h71
      have fr73 := S0.free n67
      obtain ⟨G75, eG76, hg77, S74⟩ := S0.grow n67 e70 h72 fr73
      have r78 : Rp G75 (V.ref p66) (encD ((encT1 PyData.str) ((("skip" : Str))))) := (rp_mk1 hg77 (.str _))
      have hw := cW_ok hw
      exact hK0 _ hw _ _ _ S74.b0 S74.g0 S74.sG S74.gn r78
    · have hw := cW_neg c65 hw
      refine ⟨_, rfl, _, _, rfl, rfl, (divW_lit (by decide) (by decide)), _, _, rfl, rfl, (show (0 : Int) < 3 by decide), ?_⟩
      have hw := cW_bnd hw
      refine ⟨_, rfl, _, _, rfl, rfl, (divW_lit (by decide) (by decide)), _, _, rfl, rfl, (show (0 : Int) < 2 by decide), _, _, rfl, rfl, (.inl ⟨by decide, by decide⟩), _, _, rfl, rfl, ?_⟩
      have hw := cW_bnd hw
      refine ⟨_, rfl, _, _, rfl, rfl, (divW_lit (by decide) (by decide)), rfl, rfl, G, _, _, _, rfl, S0.sG, cW_call hw (fun v81 hw p84 H82 n85 e83 h86 => ?_) (fun e he H2 e2 => hE e he H2 (Same.trans S0.b0 e2))⟩
      have h87 : H82 p84 = some (.lst ((v81 : (List Int)).map V.int)) := h86
      have fr88 := S0.free n85
      have S89 := S0.new n85 e83 h87 fr88
      refine ⟨(by show 0 ≤ sizeLine; decide), fun p90 n91 => ?_⟩
      generalize g92 : upd H82 p90 _ = H93
      obtain ⟨e94, h95⟩ := gen_new n91 g92
      have h96 : H93 p90 = some (.lst ([])) := h95
      have fr97 := S89.free n91
      have S98 := S89.new n91 e94 h96 fr97
      have d99 : RpAll G ([]) ((([] : (List (List (List Int)))) : (List (List (List Int)))).map (encL (encL PyData.int))) := RpAll.nil
      refine vv_if (vt_cmp (vv_cmp (val_var rfl) val_c (fun Q q => ⟨_, _, rfl, rfl, q⟩))) val_c val_c _ ?_
      obtain ⟨g103, hw⟩ := cW_grd hw
      obtain ⟨K110, hK111, hw⟩ := cW_push hw
      refine ⟨_, rfl, g103.1, g103.2, for_range (lo := 0) (n := Int.toNat ((if (((cell' / 3) % 3) : Int) = 0 then 1 else 3))) (fun i σ H' => ∃ (levels_112 : (List (List (List Int)))) (vs113 : List V) (u114 : Option V) (u115 : Option V) (u116 : Option V) (G' : Hp), σ = [some (V.int (cell')), some (V.int ((cell' % 3))), some (V.int (((cell' / 3) % 3))), some (V.int ((8 - (4 * ((cell' / 9) % 2))))), some (V.ref p84), some (V.ref p90), u114, u115, u116, none, none] ∧ Same G G' ∧ Sep [] H G G' H' [p84, p90] ∧ H' p84 = some (.lst ((v81 : (List Int)).map V.int)) ∧ H' p90 = some (.lst (vs113)) ∧ RpAll G' (vs113) ((levels_112 : (List (List (List Int)))).map (encL (encL PyData.int))) ∧ cW (forS (List.drop i (rng (0) (Int.toNat ((if (((cell' / 3) % 3) : Int) = 0 then 1 else 3))))) levels_112 (fun s x => F__law_block_b1 (((cell' / 3) % 3)) ((8 - (4 * ((cell' / 9) % 2)))) (v81) s x)) K110 EE) ?_ ?_ ?_⟩
      · have h117 := (e94 _ _ h87)
        exact ⟨(([] : (List (List (List Int))))), _, _, _, _, _, rfl, (Same.refl _), (S98.sub (all_cons (.tail _ (.head _)) (all_cons (.head _) all_nil))), h117, h96, d99, hw⟩
      · intro i σ H118 hi hw
        obtain ⟨levels_112, vs113, u114, u115, u116, G123, rfl, eG124, S119, h120, h121, d122, hw⟩ := hw
        have hw := cW_forS (rng_get hi) hw
        generalize (0 + (i : Int)) = x125 at hw ⊢
        have hw : cW (F__law_block_b1 (((cell' / 3) % 3)) ((8 - (4 * ((cell' / 9) % 2)))) (v81) (levels_112) (x125)) _ EE := hw
        unfold F__law_block_b1 at hw
        obtain ⟨K127, hK128, hw⟩ := cW_name hw
        refine vv_if (vt_cmp (vv_cmp (val_var rfl) val_c (fun Q q => ⟨_, _, rfl, rfl, q⟩))) val_c val_c _ ?_
        have hw := cW_bnd hw
        refine vv_if (vt_cmp (vv_cmp (val_var rfl) val_c (fun Q q => ⟨_, _, rfl, rfl, q⟩))) val_c val_c _ ?_
        have hw := cW_bnd hw
        refine ⟨fun σ H' => ∃ (count_143 : Int) (length_144 : Int) (G' : Hp), σ = [some (V.int (cell')), some (V.int ((cell' % 3))), some (V.int (((cell' / 3) % 3))), some (V.int ((8 - (4 * ((cell' / 9) % 2))))), some (V.ref p84), some (V.ref p90), some (V.int (x125)), some (V.int count_143), some (V.int length_144), none, none] ∧ Same G123 G' ∧ Sep [] H G G' H' [p84, p90] ∧ H' p84 = some (.lst ((v81 : (List Int)).map V.int)) ∧ H' p90 = some (.lst (vs113)) ∧ cW (F__law_block_k2 (v81) (levels_112) (x125) count_143 length_144) K127 EE, ?_, ?_⟩
        · obtain ⟨K145, hK146, hw⟩ := cW_push hw
          refine ⟨_, rfl, _, _, rfl, rfl, _, rfl, ?_⟩
          refine iteD (fun c147 => ?_) (fun c147 => ?_)
          · have hw := cW_pos c147 hw
            refine ⟨_, rfl, _, _, rfl, rfl, _, rfl, ?_⟩
            refine iteD (fun c148 => ?_) (fun c148 => ?_)
            · have hw := cW_pos c148 hw
              have hw := cW_ok hw
              have hw := hK146 _ hw
              exact ⟨(1), (16), _, rfl, (Same.refl _), S119, h120, h121, hw⟩
            · have hw := cW_neg c148 hw
              have hw := cW_ok hw
              have hw := hK146 _ hw
              exact ⟨((if ((8 - (4 * ((cell' / 9) % 2))) : Int) = 4 then 4 else 1)), ((if ((8 - (4 * ((cell' / 9) % 2))) : Int) = 4 then 16 else 64)), _, rfl, (Same.refl _), S119, h120, h121, hw⟩
          · have hw := cW_neg c147 hw
            refine iteF ?_
            have hw := cW_ok hw
            have hw := hK146 _ hw
            exact ⟨((if ((8 - (4 * ((cell' / 9) % 2))) : Int) = 4 then 4 else 1)), ((if ((8 - (4 * ((cell' / 9) % 2))) : Int) = 4 then 16 else 64)), _, rfl, (Same.refl _), S119, h120, h121, hw⟩
        · intro σ H149 hw
          obtain ⟨count_143, length_144, G153, rfl, eG154, S150, h151, h152, hw⟩ := hw
          unfold F__law_block_k2 at hw
          obtain ⟨g155, hw⟩ := cW_grd hw
          obtain ⟨K160, hK161, hw⟩ := cW_push hw
          refine ⟨_, rfl, (.inl ⟨rfl, _, SqL.of h152⟩), _, rfl, _, rfl, g155.1, g155.2, fun D162 n163 => lc_range (lo := 0) (n := Int.toNat (count_143)) (fun i H' => ∃ (G' : Hp) (acc165 : (List (List Int))) (vs166 : List V), Same G153 G' ∧ Sep [] H G G' H' [D162, p84, p90] ∧ H' p84 = some (.lst ((v81 : (List Int)).map V.int)) ∧ H' p90 = some (.lst (vs113)) ∧ H' D162 = some (.lst vs166) ∧ RpAll G' vs166 ((acc165 : (List (List Int))).map (encL PyData.int)) ∧ Same H149 H' ∧ cW (mapA (List.drop i (rng (0) (Int.toNat (count_143)))) acc165 (fun x => noEr (F__law_block_c3 (v81) (x125) (length_144) x))) K160 EE) ?_ ?_ ?_⟩
          · generalize g167 : upd H149 D162 _ = H168
            obtain ⟨e169, h170⟩ := gen_new n163 g167
            have fr171 := S150.free n163
            have S172 := S150.new n163 e169 h170 fr171
            have h173 := (e169 _ _ h151)
            have h174 := (e169 _ _ h152)
            exact ⟨_, [], [], Same.refl _, S172, h173, h174, h170, RpAll.nil, e169, hw⟩
          · intro i H175 hi hw
            obtain ⟨G178, acc180, vs181, eG179, S176, h187, h188, h177, d182, eo186, hw⟩ := hw
            obtain ⟨z189, hw⟩ := cW_mapA (rng_get hi) hw
            generalize (0 + (i : Int)) = x190 at hw ⊢
            have hw := cW_noEr hw
            have hw : cW (F__law_block_c3 (v81) (x125) (length_144) (x190)) _ (fun _ => False) := hw
            unfold F__law_block_c3 at hw
            refine ⟨rfl, ?_⟩
            refine tyes_go ?_
            obtain ⟨g192, hw⟩ := cW_grd hw
            obtain ⟨K197, hK198, hw⟩ := cW_push hw
            refine ⟨_, rfl, _, rfl, g192.1, g192.2, fun D199 n200 => lc_range (lo := 0) (n := Int.toNat (length_144)) (fun i2 H' => ∃ (G' : Hp) (acc202 : (List Int)), Same G178 G' ∧ Sep [] H G G' H' [D199, p84, p90, D162] ∧ H' p84 = some (.lst ((v81 : (List Int)).map V.int)) ∧ H' p90 = some (.lst (vs113)) ∧ H' D162 = some (.lst (vs181)) ∧ H' D199 = some (.lst ((acc202 : (List Int)).map V.int)) ∧ Same H175 H' ∧ cW (mapA (List.drop i2 (rng (0) (Int.toNat (length_144)))) acc202 (fun x => noEr (F__law_block_c4 (v81) (x125) (x190) x))) K197 (fun _ => False)) ?_ ?_ ?_⟩
            · generalize g204 : upd H175 D199 _ = H205
              obtain ⟨e206, h207⟩ := gen_new n200 g204
              have fr208 := S176.free n200
              have S209 := S176.new n200 e206 h207 fr208
              have h210 := (e206 _ _ h187)
              have h211 := (e206 _ _ h188)
              have h212 := (e206 _ _ h177)
              exact ⟨_, [], Same.refl _, (S209.sub (all_cons (.head _) (all_cons (.tail _ (.tail _ (.head _))) (all_cons (.tail _ (.tail _ (.tail _ (.head _)))) (all_cons (.tail _ (.head _)) all_nil))))), h210, h211, h212, h207, e206, hw⟩
            · intro i2 H213 hi hw
              obtain ⟨G216, acc218, eG217, S214, h225, h226, h227, h215, eo224, hw⟩ := hw
              obtain ⟨z228, hw⟩ := cW_mapA (rng_get hi) hw
              generalize (0 + (i2 : Int)) = x229 at hw ⊢
              have hw := cW_noEr hw
              have hw : cW (F__law_block_c4 (v81) (x125) (x190) (x229)) _ (fun _ => False) := hw
              unfold F__law_block_c4 at hw
              refine ⟨rfl, ?_⟩
              refine tyes_go ?_
              obtain ⟨g231, hw⟩ := cW_grd hw
              refine ⟨_, rfl, _, rfl, _, _, rfl, rfl, (.inl ⟨by decide, by decide⟩), _, rfl, _, _, rfl, rfl, (.inl ⟨by decide, by decide⟩), _, _, rfl, rfl, _, rfl, _, _, rfl, rfl, _, _, rfl, rfl, (show (0 : Int) < 40 by decide), _, _, _, _, rfl, rfl, (SqL.of h225), (atI_map g231), rfl, rfl, G216, _, rfl, S214.sG, cW_call hw (fun v232 hw => ?_) (fun e he => he.elim)⟩
              refine ⟨_, h215, (app_lenM z228), ?_⟩
              generalize g233 : upd H213 D199 _ = H234
              obtain ⟨x235, h236⟩ := gen_mut g233
              have S237 := S214.mut1 x235 (.head _) h236
              have hw := cW_ok hw
              have h238 := (x235 _ _ h225 (ne_of_none h187 n200))
              have h239 := (x235 _ _ h226 (ne_of_none h188 n200))
              have h240 := (x235 _ _ h227 (ne_of_none h177 n200))
              exact ⟨_, (acc218 ++ [v232]), eG217, S237, h238, h239, h240, (snoc_map h236), (same_mut eo224 x235 n200), hw⟩
            intro H241 hw
            obtain ⟨G244, acc246, eG245, S242, h253, h254, h255, h243, eo252, hw⟩ := hw
            have hw := hK198 _ (cW_mapA0 (rng_len _ _).symm hw)
            have fr256 := S176.free n200
            obtain ⟨G257, eG258, hg259, S260⟩ := Sep.freeze (O' := [p84, p90, D162]) S242 (.head _) h243 fr256 ((all_cons ⟨(.tail _ (.head _)), (ne_of_none h187 n200)⟩ (all_cons ⟨(.tail _ (.tail _ (.head _))), (ne_of_none h188 n200)⟩ (all_cons ⟨(.tail _ (.tail _ (.tail _ (.head _)))), (ne_of_none h177 n200)⟩ all_nil))))
            refine ⟨_, h255, (app_len (RpAll.mono eG258 (RpAll.mono eG245 d182)) z189), ?_⟩
            generalize g261 : upd H241 D162 _ = H262
            obtain ⟨x263, h264⟩ := gen_mut g261
            have S265 := S260.mut1 x263 (.tail _ (.tail _ (.head _))) h264
            have hw := cW_ok hw
            have h266 := (x263 _ _ h253 (ne_of_none h151 n163))
            have h267 := (x263 _ _ h254 (ne_of_none h152 n163))
            exact ⟨_, (acc180 ++ [acc246]), _, (Same.trans (Same.trans eG179 eG245) eG258), (S265.sub (all_cons (.tail _ (.tail _ (.head _))) (all_cons (.head _) (all_cons (.tail _ (.head _)) all_nil)))), h266, h267, h264, (app_map (RpAll.mono eG258 (RpAll.mono eG245 d182)) (RpAll.one (rp_mk_ints hg259))), (same_mut (Same.trans eo186 eo252) x263 n163), hw⟩
          intro H268 hw
          obtain ⟨G271, acc273, vs274, eG272, S269, h280, h281, h270, d275, eo279, hw⟩ := hw
          have hw := hK161 _ (cW_mapA0 (rng_len _ _).symm hw)
          have fr282 := S150.free n163
          obtain ⟨g283, hw⟩ := cW_grd hw
          obtain ⟨G284, eG285, hg286, S287⟩ := Sep.freeze (O' := [p84, p90]) S269 (.head _) h270 fr282 ((all_cons ⟨(.tail _ (.head _)), (ne_of_none h151 n163)⟩ (all_cons ⟨(.tail _ (.tail _ (.head _))), (ne_of_none h152 n163)⟩ all_nil)))
          refine ⟨_, _, _, rfl, rfl, h281, (app_len (RpAll.mono eG285 (RpAll.mono eG272 (RpAll.mono eG154 d122))) g283), ?_⟩
          generalize g288 : upd H268 p90 _ = H289
          obtain ⟨x290, h291⟩ := gen_mut g288
          have h292 : H289 p90 = some (.lst (vs113 ++ [V.ref D162])) := h291
          have S293 := S287.mut1 x290 (.tail _ (.head _)) h292
          have d294 : RpAll G284 (vs113 ++ [V.ref D162]) (((levels_112) ++ [acc273] : (List (List (List Int)))).map (encL (encL PyData.int))) := app_map (RpAll.mono eG285 (RpAll.mono eG272 (RpAll.mono eG154 d122))) (RpAll.one (rp_mk_list hg286 (RpAll.mono eG285 d275)))
          have hw := cW_bnd hw
          have hw := cW_ok hw
          have hw := hK128 _ hw
          have h296 := (x290 _ _ h280 (ne_of_none h87 n91))
          exact ⟨((levels_112) ++ [acc273]), _, _, _, _, _, rfl, (Same.trans (Same.trans (Same.trans eG124 eG154) eG272) eG285), S293, h296, h292, d294, hw⟩
      · intro σ H297 hw
        obtain ⟨levels_112, vs113, u114, u115, u116, G302, rfl, eG303, S298, h299, h300, d301, hw⟩ := hw
        have hw := hK111 _ (cW_forS0 (rng_len _ _).symm hw)
        have hw : cW (F__law_block_r1 (cell') ((cell' % 3)) ((8 - (4 * ((cell' / 9) % 2)))) (levels_112)) _ EE := hw
        unfold F__law_block_r1 at hw
        refine ⟨_, rfl, _, _, rfl, rfl, _, rfl, ?_⟩
        refine iteD (fun c305 => ?_) (fun c305 => ?_)
        · have hw := cW_pos c305 hw
          refine ⟨_, rfl, _, _, rfl, rfl, (divW_lit (by decide) (by decide)), _, _, rfl, rfl, (show (0 : Int) < 8 by decide), (by show 1 ≤ sizeLine; decide), fun p306 n307 => ?_⟩
          generalize g308 : upd H297 p306 _ = H309
          obtain ⟨e310, h311⟩ := gen_new n307 g308
          have h312 : H309 p306 = some (.lst (([((cell' / 11) % 8)] : (List Int)).map V.int)) := h311
          have fr313 := S298.free n307
          have S314 := S298.new n307 e310 h312 fr313
          refine vv_if (vt_cmp (vv_cmp (val_var rfl) val_c (fun Q q => ⟨_, _, rfl, rfl, q⟩))) val_c val_c _ ?_
          obtain ⟨g318, hw⟩ := cW_grd hw
          refine ⟨_, _, _, rfl, rfl, h312, g318.1, g318.2.1, (rep_lenM g318.2.2), fun p319 n320 => ?_⟩
          generalize g321 : upd H309 p319 _ = H322
          obtain ⟨e323, h324⟩ := gen_new n320 g321
          have h325 : H322 p319 = some (.lst ((repL ([((cell' / 11) % 8)]) ((if ((8 - (4 * ((cell' / 9) % 2))) : Int) = 8 then 1 else 4)) : (List Int)).map V.int)) := rep_map h324
          have fr326 := S314.free n320
          have S327 := S314.new n320 e323 h325 fr326
          refine ⟨_, rfl, (by show 4 ≤ sizeLine; decide), fun p328 n329 => ?_⟩
          generalize g330 : upd H322 p328 _ = H331
          obtain ⟨e332, h333⟩ := gen_new n329 g330
          have h334 : H331 p328 = some (.tup [V.str (("intra" : Str)), V.ref p319, V.int (0), V.ref p90]) := h333
          have fr335 := S327.free n329
          obtain ⟨G337, eG338, hg339, S336⟩ := S327.grow n329 e332 h334 fr335
          have h340 := (e332 _ _ h325)
          obtain ⟨G341, eG342, hg343, S344⟩ := Sep.freeze (O' := [p306, p84, p90]) S336 (.head _) h340 fr326 ((all_cons ⟨(.tail _ (.head _)), (ne_of_none h312 n320)⟩ (all_cons ⟨(.tail _ (.tail _ (.head _))), (ne_of_none (e310 _ _ h299) n320)⟩ (all_cons ⟨(.tail _ (.tail _ (.tail _ (.head _)))), (ne_of_none (e310 _ _ h300) n320)⟩ all_nil))))
          have h345 := (e332 _ _ (e323 _ _ (e310 _ _ h300)))
          obtain ⟨G346, eG347, hg348, S349⟩ := Sep.freeze (O' := [p306, p84]) S344 (.tail _ (.tail _ (.head _))) h345 fr97 ((all_cons ⟨(.head _), (ne_of_none h300 n307).symm⟩ (all_cons ⟨(.tail _ (.head _)), (ne_of_none h87 n91)⟩ all_nil)))
          have r350 : Rp G346 (V.ref p328) (encD ((encT4 PyData.str (encL PyData.int) PyData.int (encL (encL (encL PyData.int)))) ((("intra" : Str), repL ([((cell' / 11) % 8)]) ((if ((8 - (4 * ((cell' / 9) % 2))) : Int) = 8 then 1 else 4)), 0, levels_112)))) := (rp_mk4 (eG347 _ _ (eG342 _ _ hg339)) (.str _) (rp_mk_ints (eG347 _ _ hg343)) (.int _) (rp_mk_list hg348 (RpAll.mono eG347 (RpAll.mono eG342 (RpAll.mono eG338 d301)))))
          have hw := cW_ok hw
          exact hK0 _ hw _ _ _ S349.b0 S349.g0 S349.sG S349.gn r350
        · have hw := cW_neg c305 hw
          refine ⟨_, rfl, _, _, rfl, rfl, (show (0 : Int) < 9 by decide), (by show 2 ≤ sizeLine; decide), fun p351 n352 => ?_⟩
          generalize g353 : upd H297 p351 _ = H354
          obtain ⟨e355, h356⟩ := gen_new n352 g353
          have h357 : H354 p351 = some (.tup [V.int ((cell' % 9)), V.int (0)]) := h356
          have fr358 := S298.free n352
          obtain ⟨G360, eG361, hg362, S359⟩ := S298.grow n352 e355 h357 fr358
          refine ⟨(by show 4 ≤ sizeLine; decide), fun p363 n364 => ?_⟩
          generalize g365 : upd H354 p363 _ = H366
          obtain ⟨e367, h368⟩ := gen_new n364 g365
          have h369 : H366 p363 = some (.tup [V.int (0), V.int (0), V.ref p351, V.non]) := h368
          have fr370 := S359.free n364
          obtain ⟨G372, eG373, hg374, S371⟩ := S359.grow n364 e367 h369 fr370
          refine ⟨(by show 1 ≤ sizeLine; decide), fun p375 n376 => ?_⟩
          generalize g377 : upd H366 p375 _ = H378
          obtain ⟨e379, h380⟩ := gen_new n376 g377
          have h381 : H378 p375 = some (.lst ([V.ref p363])) := h380
          have fr382 := S371.free n376
          have S383 := S371.new n376 e379 h381 fr382
          have d384 : RpAll G372 ([V.ref p363]) (([(0, 0, ((cell' % 9), 0), ())] : (List (Int × Int × (Int × Int) × Unit))).map (encT4 PyData.int PyData.int (encT2 PyData.int PyData.int) encN)) := (RpAll.cons (rp_mk4 hg374 (.int _) (.int _) (rp_mk2 (eG373 _ _ hg362) (.int _) (.int _)) .non) RpAll.nil)
          refine ⟨_, rfl, _, rfl, (by show 4 ≤ sizeLine; decide), fun p385 n386 => ?_⟩
          generalize g387 : upd H378 p385 _ = H388
          obtain ⟨e389, h390⟩ := gen_new n386 g387
          have h391 : H388 p385 = some (.tup [V.str (("inter" : Str)), V.ref p375, V.int ((8 - (4 * ((cell' / 9) % 2)))), V.ref p90]) := h390
          have fr392 := S383.free n386
          obtain ⟨G394, eG395, hg396, S393⟩ := S383.grow n386 e389 h391 fr392
          have h397 := (e389 _ _ h381)
          obtain ⟨G398, eG399, hg400, S401⟩ := Sep.freeze (O' := [p84, p90]) S393 (.head _) h397 fr382 ((all_cons ⟨(.tail _ (.head _)), (ne_of_none (e367 _ _ (e355 _ _ h299)) n376)⟩ (all_cons ⟨(.tail _ (.tail _ (.head _))), (ne_of_none (e367 _ _ (e355 _ _ h300)) n376)⟩ all_nil)))
          have h402 := (e389 _ _ (e379 _ _ (e367 _ _ (e355 _ _ h300))))
          obtain ⟨G403, eG404, hg405, S406⟩ := Sep.freeze (O' := [p84]) S401 (.tail _ (.head _)) h402 fr97 ((all_cons ⟨(.head _), (ne_of_none h87 n91)⟩ all_nil))
          have r407 : Rp G403 (V.ref p385) (encD ((encT4 PyData.str (encL (encT4 PyData.int PyData.int (encT2 PyData.int PyData.int) encN)) PyData.int (encL (encL (encL PyData.int)))) ((("inter" : Str), [(0, 0, ((cell' % 9), 0), ())], (8 - (4 * ((cell' / 9) % 2))), levels_112)))) := (rp_mk4 (eG404 _ _ (eG399 _ _ hg396)) (.str _) (rp_mk_list (eG404 _ _ hg400) (RpAll.mono eG404 (RpAll.mono eG399 (RpAll.mono eG395 d384)))) (.int _) (rp_mk_list hg405 (RpAll.mono eG404 (RpAll.mono eG399 (RpAll.mono eG395 (RpAll.mono eG373 (RpAll.mono eG361 d301)))))))
          have hw := cW_ok hw
          exact hK0 _ hw _ _ _ S406.b0 S406.g0 S406.sG S406.gn r407

abbrev N_block_price : List Str := ["block", "price", "levels", "parts", "part", "level"]
theorem sc_block_price : FnScope N_block_price ["block"] (defScope s_block_price) := ⟨rfl, rfl, rfl, by decide +kernel, rfl, by decide +kernel, by decide +kernel⟩
theorem ok_block_price (D : DefX K mg "block_price" s_block_price ["block"] pats_block_price) (T : Txt w K mg AD)  : CalX P w K mg base 1 "block_price" (sp_block_price K AD) pats_block_price := by
  refine D.ok sc_block_price (fun vs H Q E h => ?_) (fun f cdv A_ outer s H vs Q E hr h => ?_)
  · obtain ⟨G, v_block, block', rfl, _⟩ := h
    rfl
  · obtain ⟨G, v_block, block', rfl, sG, r_block, hw⟩ := h
    refine ⟨_, (pss_cons (ps_set (i := 1) sc_block_price.nd rfl (Or.inl rfl) (pe_ix (ix_DS (w := w) (K := K)) (C8.pe_gc (v := V.ref AD.t_PRICES) rfl T.g_PRICES) (pe_ix (ix_tupK (K := K)) (pv 0) pe_int (fun _ _ => rfl)) (fun _ _ => rfl)))
      (pss_cons (ps_set (i := 2) sc_block_price.nd rfl (Or.inl rfl) (pe_ifExp (pt_cmpR op_eq (pe_ix (ix_tupK (K := K)) (pv 0) pe_int (fun _ _ => rfl)) pe_str (nomark _)) (pe_lst pa_nil) (pe_ix (ix_tupK (K := K)) (pv 0) pe_int (fun _ _ => rfl))))
      (pss_cons (ps_for (passes_of rfl) rfl (pi_listK (K := K) (pv 2)) (pg_name (i := 3) sc_block_price.nd rfl (Or.inl rfl)) (pss_one (ps_for (passes_of rfl) rfl (pi_listK (K := K) (pv 3)) (pg_name (i := 4) sc_block_price.nd rfl (Or.inl rfl)) (pss_one (ps_aug (i := 1) sc_block_price.nd rfl (Or.inl rfl) (pe_callB (cr_sumK (K := K) rfl) (by rfl) T.b_sum (by decide +kernel) (pa_cons (pe_lc (own := [("level", 5)]) (g := gName 5) (by rfl) sc_block_price.nd (pi_listK (K := K) (pv 4)) (blkOk_by (own := [("level", 5)]) (N := N_block_price) (sc := defScope s_block_price) (by decide +kernel)) (fun _ _ _ _ _ => (pg_name (i := 5) sc_block_price.nd rfl (Or.inl rfl))) (fun _ _ _ _ _ => pts_one (pt_cmp (pc_neI (pv 5) pe_int))) (fun _ _ _ _ _ => (pe_op op_add (pe_op op_mul pe_int (pe_bits (pe_callB call_abs (by rfl) T.b_abs (by decide +kernel) (pa_cons (pv 5) pa_nil)))) pe_int))) pa_nil)) (pip iop_add))))))
      (pss_one (ps_ret (pv 1)))))), ?_⟩
    obtain ⟨KK, EE, hK0, hE, hw⟩ := cW_gen hw
    have S0 := Sep.startG sG
    unfold F_block_price at hw
    obtain ⟨g408, hw⟩ := cW_grd hw
    obtain ⟨a409, vs410, v411, e412, h413, e414, r415⟩ := rp_dget (k := 0) g408 r_block
    obtain ⟨g416, hw⟩ := cW_grd hw
    have r417 : Rp (hideL [] H) v411 (PyData.str ((cS).dec ((dGet (block') 0)))) := rp_dcast cS g416 r415
    obtain rfl := rp_str r417
    obtain ⟨g418, hw⟩ := cW_grd hw
    refine ⟨_, rfl, _, _, _, _, e412, rfl, (SqT.of (S0.bM _ _ h413)), e414, _, _, ([("skip", 0), ("intra", 1), ("inter", 3)] : List (Str × Int)), _, rfl, rfl, T.kd_PRICES, (lookS_at g418), ?_⟩
    have hw := cW_bnd hw
    obtain ⟨g420, hw⟩ := cW_grd hw
    obtain ⟨a421, vs422, v423, e424, h425, e426, r427⟩ := rp_dget (k := 0) g420 r_block
    obtain ⟨g428, hw⟩ := cW_grd hw
    have r429 : Rp (hideL [] H) v423 (PyData.str ((cS).dec ((dGet (block') 0)))) := rp_dcast cS g428 r427
    obtain rfl := rp_str r429
    refine ⟨_, rfl, _, _, _, _, e424, rfl, (SqT.of (S0.bM _ _ h425)), e426, rfl, _, rfl, ?_⟩
    refine iteD (fun c430 => ?_) (fun c430 => ?_)
    · have hw := cW_pos c430 hw
      refine ⟨(by show 0 ≤ sizeLine; decide), fun p431 n432 => ?_⟩
      generalize g433 : upd H p431 _ = H434
      obtain ⟨e435, h436⟩ := gen_new n432 g433
      have h437 : H434 p431 = some (.lst ([])) := h436
      have fr438 := S0.free n432
      have S439 := S0.new n432 e435 h437 fr438
      have d440 : RpAll G ([]) ((([] : (List (List (List Int)))) : (List (List (List Int)))).map (encL (encL PyData.int))) := RpAll.nil
      obtain ⟨K441, hK442, hw⟩ := cW_push hw
      refine ⟨_, rfl, _, rfl, ⟨_, (SqL.of h437)⟩, for_list (K := K) (a := p431) (xs := []) (fun i σ H' => ∃ (price_443 : Int) (u444 : Option V) (u445 : Option V) (G' : Hp), σ = [some (v_block), some (V.int price_443), some (V.ref p431), u444, u445, none] ∧ Same G G' ∧ Sep [] H G G' H' [p431] ∧ H' p431 = some (.lst ([])) ∧ cW (forS (List.drop i (([] : (List (List (List Int)))))) price_443 (fun s x => F_block_price_b1  s x)) K441 EE) ?_ ?_ ?_ ?_⟩
      · exact ⟨((dictS ([("skip", 0), ("intra", 1), ("inter", 3)] : List (Str × Int)) (((cS).dec ((dGet (block') 0)))))), _, _, _, rfl, (Same.refl _), S439, h437, hw⟩
      · intro i σ H446 _ hw
        obtain ⟨price_443, u444, u445, G449, rfl, eG450, S447, h448, hw⟩ := hw
        exact (SqL.of h448)
      · intro i x σ H451 hj hw
        obtain ⟨price_443, u444, u445, G454, rfl, eG455, S452, h453, hw⟩ := hw
        obtain ⟨x456, hx, r457⟩ := RpAll.get (RpAll.mono eG455 d440) hj
        obtain ⟨a458, vs459, rfl, h460, d461⟩ := rp_list r457
        have hw := cW_forS hx hw
        have hw : cW (F_block_price_b1  (price_443) (x456)) _ EE := hw
        unfold F_block_price_b1 at hw
        obtain ⟨K463, hK464, hw⟩ := cW_name hw
        obtain ⟨K466, hK467, hw⟩ := cW_push hw
        refine ⟨_, rfl, _, rfl, ⟨_, (SqL.of (S452.sG _ _ h460))⟩, for_list (K := K) (a := a458) (xs := vs459) (fun i σ H' => ∃ (price_468 : Int) (u469 : Option V) (G' : Hp), σ = [some (v_block), some (V.int price_468), some (V.ref p431), some (V.ref a458), u469, none] ∧ Same G454 G' ∧ Sep [] H G G' H' [p431] ∧ H' p431 = some (.lst ([])) ∧ cW (forS (List.drop i (x456)) price_468 (fun s x => F_block_price_b2  s x)) K466 EE) ?_ ?_ ?_ ?_⟩
        · exact ⟨(price_443), _, _, rfl, (Same.refl _), S452, h453, hw⟩
        · intro i σ H470 _ hw
          obtain ⟨price_468, u469, G473, rfl, eG474, S471, h472, hw⟩ := hw
          exact (SqL.of (S471.sG _ _ (eG474 _ _ h460)))
        · intro i x σ H475 hj hw
          obtain ⟨price_468, u469, G478, rfl, eG479, S476, h477, hw⟩ := hw
          obtain ⟨x480, hx, r481⟩ := RpAll.get (RpAll.mono eG479 d461) hj
          obtain ⟨a482, rfl, h483⟩ := rp_ints r481
          have hw := cW_forS hx hw
          have hw : cW (F_block_price_b2  (price_468) (x480)) _ EE := hw
          unfold F_block_price_b2 at hw
          obtain ⟨K485, hK486, hw⟩ := cW_name hw
          obtain ⟨K489, hK490, hw⟩ := cW_push hw
          refine ⟨_, rfl, _, rfl, _, rfl, ⟨_, (SqL.of (S476.sG _ _ h483))⟩, fun D491 n492 => lc_list (K := K) (a := a482) (xs := (x480 : List Int).map V.int) (fun i H' => ∃ (G' : Hp) (acc494 : (List Int)), Same G478 G' ∧ Sep [] H G G' H' [D491, p431] ∧ H' p431 = some (.lst ([])) ∧ H' D491 = some (.lst ((acc494 : (List Int)).map V.int)) ∧ Same H475 H' ∧ cW (mapF (List.drop i (x480)) acc494 (fun x => noEr (F_block_price_c3  x))) K489 EE) ?_ ?_ ?_ ?_⟩
          · generalize g496 : upd H475 D491 _ = H497
            obtain ⟨e498, h499⟩ := gen_new n492 g496
            have fr500 := S476.free n492
            have S501 := S476.new n492 e498 h499 fr500
            have h502 := (e498 _ _ h477)
            exact ⟨_, [], Same.refl _, S501, h502, h499, e498, hw⟩
          · intro i H503 _ hw
            obtain ⟨G506, acc508, eG507, S504, h515, h505, eo514, hw⟩ := hw
            exact (SqL.of (S504.sG _ _ (eG507 _ _ h483)))
          · intro i x H516 hj hw
            obtain ⟨G519, acc521, eG520, S517, h528, h518, eo527, hw⟩ := hw
            obtain ⟨x529, hx, rfl⟩ := map_get hj
            obtain ⟨z530, hw⟩ := cW_mapF hx hw
            have hw := cW_noEr hw
            have hw : cW (F_block_price_c3  (x529)) _ (fun _ => False) := hw
            unfold F_block_price_c3 at hw
            refine ⟨rfl, ?_⟩
            refine ⟨_, rfl, _, _, rfl, rfl, _, rfl, ?_⟩
            refine iteN (fun c532 => ?_) (fun c532 => ?_)
            · have hw := cW_neg c532 hw
              refine ⟨_, rfl, _, rfl, _, rfl, _, _, rfl, rfl, (.inl ⟨by decide, by decide⟩), _, _, rfl, rfl, _, h518, (app_lenM z530), ?_⟩
              generalize g533 : upd H516 D491 _ = H534
              obtain ⟨x535, h536⟩ := gen_mut g533
              have S537 := S517.mut1 x535 (.head _) h536
              have hw := cW_ok hw
              have h538 := (x535 _ _ h528 (ne_of_none h477 n492))
              exact ⟨_, (acc521 ++ [((2 * ((PySem.Builtin.Int.intBits ((if x529 < 0 then -x529 else x529)) : Nat) : Int)) + 1)]), eG520, S537, h538, (snoc_map h536), (same_mut eo527 x535 n492), hw⟩
            · have hw := cW_pos c532 hw
              have hw := cW_ok hw
              exact ⟨_, acc521, eG520, S517, h528, h518, eo527, hw⟩
          intro H539 hw
          obtain ⟨G542, acc544, eG543, S540, h551, h541, eo550, hw⟩ := hw
          have hw := hK490 _ (cW_mapF0 (by rw [List.length_map]) hw)
          have fr552 := S476.free n492
          refine ⟨_, _, rfl, (SqL.of h541), _, _, rfl, rfl, ?_⟩
          have hw := cW_bnd hw
          have hw := cW_ok hw
          have hw := hK486 _ hw
          exact ⟨((price_468 + (List.sum (acc544)))), _, _, rfl, (Same.trans eG479 eG543), (S540.sub (all_cons (.tail _ (.head _)) all_nil)), h551, hw⟩
        · intro σ H554 hw
          obtain ⟨price_468, u469, G557, rfl, eG558, S555, h556, hw⟩ := hw
          have hw := hK467 _ (cW_forS0 (by rw [(RpAll.mono eG558 d461).len, List.length_map]) hw)
          have hw : cW (F_block_price_r2  (price_468)) _ EE := hw
          unfold F_block_price_r2 at hw
          have hw := cW_ok hw
          have hw := hK464 _ hw
          exact ⟨(price_468), _, _, _, rfl, (Same.trans eG455 eG558), S555, h556, hw⟩
      · intro σ H560 hw
        obtain ⟨price_443, u444, u445, G563, rfl, eG564, S561, h562, hw⟩ := hw
        have hw := hK442 _ (cW_forS0 (by rw [(RpAll.mono eG564 d440).len, List.length_map]) hw)
        have hw : cW (F_block_price_r1  (price_443)) _ EE := hw
        unfold F_block_price_r1 at hw
        refine ⟨_, rfl, ?_⟩
        have hw := cW_ok hw
        exact hK0 _ hw _ S561.b0
    · have hw := cW_neg c430 hw
      obtain ⟨g566, hw⟩ := cW_grd hw
      obtain ⟨a567, vs568, v569, e570, h571, e572, r573⟩ := rp_dget (k := 3) g566 r_block
      obtain ⟨g574, hw⟩ := cW_grd hw
      have r575 : Rp (hideL [] H) v569 ((encL (encL (encL PyData.int))) (((cL (cL (cL cI)))).dec ((dGet (block') 3)))) := rp_dcast (cL (cL (cL cI))) g574 r573
      obtain ⟨a576, vs577, rfl, h578, d579⟩ := rp_list r575
      obtain ⟨K580, hK581, hw⟩ := cW_push hw
      refine ⟨_, rfl, _, _, _, _, e570, rfl, (SqT.of (S0.bM _ _ h571)), e572, _, rfl, _, rfl, ⟨_, (SqL.of (S0.bM _ _ h578))⟩, for_list (K := K) (a := a576) (xs := vs577) (fun i σ H' => ∃ (price_582 : Int) (u583 : Option V) (u584 : Option V) (G' : Hp), σ = [some (v_block), some (V.int price_582), some (V.ref a576), u583, u584, none] ∧ Same G G' ∧ Sep [] H G G' H' [] ∧ cW (forS (List.drop i ((((cL (cL (cL cI)))).dec ((dGet (block') 3))))) price_582 (fun s x => F_block_price_b4  s x)) K580 EE) ?_ ?_ ?_ ?_⟩
      · exact ⟨((dictS ([("skip", 0), ("intra", 1), ("inter", 3)] : List (Str × Int)) (((cS).dec ((dGet (block') 0)))))), _, _, _, rfl, (Same.refl _), S0, hw⟩
      · intro i σ H585 _ hw
        obtain ⟨price_582, u583, u584, G587, rfl, eG588, S586, hw⟩ := hw
        exact (SqL.of (S586.bM _ _ h578))
      · intro i x σ H589 hj hw
        obtain ⟨price_582, u583, u584, G591, rfl, eG592, S590, hw⟩ := hw
        obtain ⟨x593, hx, r594⟩ := RpAll.get d579 hj
        obtain ⟨a595, vs596, rfl, h597, d598⟩ := rp_list r594
        have hw := cW_forS hx hw
        have hw : cW (F_block_price_b4  (price_582) (x593)) _ EE := hw
        unfold F_block_price_b4 at hw
        obtain ⟨K600, hK601, hw⟩ := cW_name hw
        obtain ⟨K603, hK604, hw⟩ := cW_push hw
        refine ⟨_, rfl, _, rfl, ⟨_, (SqL.of (S590.bM _ _ h597))⟩, for_list (K := K) (a := a595) (xs := vs596) (fun i σ H' => ∃ (price_605 : Int) (u606 : Option V) (G' : Hp), σ = [some (v_block), some (V.int price_605), some (V.ref a576), some (V.ref a595), u606, none] ∧ Same G591 G' ∧ Sep [] H G G' H' [] ∧ cW (forS (List.drop i (x593)) price_605 (fun s x => F_block_price_b5  s x)) K603 EE) ?_ ?_ ?_ ?_⟩
        · exact ⟨(price_582), _, _, rfl, (Same.refl _), S590, hw⟩
        · intro i σ H607 _ hw
          obtain ⟨price_605, u606, G609, rfl, eG610, S608, hw⟩ := hw
          exact (SqL.of (S608.bM _ _ h597))
        · intro i x σ H611 hj hw
          obtain ⟨price_605, u606, G613, rfl, eG614, S612, hw⟩ := hw
          obtain ⟨x615, hx, r616⟩ := RpAll.get d598 hj
          obtain ⟨a617, rfl, h618⟩ := rp_ints r616
          have hw := cW_forS hx hw
          have hw : cW (F_block_price_b5  (price_605) (x615)) _ EE := hw
          unfold F_block_price_b5 at hw
          obtain ⟨K620, hK621, hw⟩ := cW_name hw
          obtain ⟨K624, hK625, hw⟩ := cW_push hw
          refine ⟨_, rfl, _, rfl, _, rfl, ⟨_, (SqL.of (S612.bM _ _ h618))⟩, fun D626 n627 => lc_list (K := K) (a := a617) (xs := (x615 : List Int).map V.int) (fun i H' => ∃ (G' : Hp) (acc629 : (List Int)), Same G613 G' ∧ Sep [] H G G' H' [D626] ∧ H' D626 = some (.lst ((acc629 : (List Int)).map V.int)) ∧ Same H611 H' ∧ cW (mapF (List.drop i (x615)) acc629 (fun x => noEr (F_block_price_c6  x))) K624 EE) ?_ ?_ ?_ ?_⟩
          · generalize g631 : upd H611 D626 _ = H632
            obtain ⟨e633, h634⟩ := gen_new n627 g631
            have fr635 := S612.free n627
            have S636 := S612.new n627 e633 h634 fr635
            exact ⟨_, [], Same.refl _, S636, h634, e633, hw⟩
          · intro i H637 _ hw
            obtain ⟨G640, acc642, eG641, S638, h639, eo648, hw⟩ := hw
            exact (SqL.of (S638.bM _ _ h618))
          · intro i x H649 hj hw
            obtain ⟨G652, acc654, eG653, S650, h651, eo660, hw⟩ := hw
            obtain ⟨x661, hx, rfl⟩ := map_get hj
            obtain ⟨z662, hw⟩ := cW_mapF hx hw
            have hw := cW_noEr hw
            have hw : cW (F_block_price_c6  (x661)) _ (fun _ => False) := hw
            unfold F_block_price_c6 at hw
            refine ⟨rfl, ?_⟩
            refine ⟨_, rfl, _, _, rfl, rfl, _, rfl, ?_⟩
            refine iteN (fun c664 => ?_) (fun c664 => ?_)
            · have hw := cW_neg c664 hw
              refine ⟨_, rfl, _, rfl, _, rfl, _, _, rfl, rfl, (.inl ⟨by decide, by decide⟩), _, _, rfl, rfl, _, h651, (app_lenM z662), ?_⟩
              generalize g665 : upd H649 D626 _ = H666
              obtain ⟨x667, h668⟩ := gen_mut g665
              have S669 := S650.mut1 x667 (.head _) h668
              have hw := cW_ok hw
              exact ⟨_, (acc654 ++ [((2 * ((PySem.Builtin.Int.intBits ((if x661 < 0 then -x661 else x661)) : Nat) : Int)) + 1)]), eG653, S669, (snoc_map h668), (same_mut eo660 x667 n627), hw⟩
            · have hw := cW_pos c664 hw
              have hw := cW_ok hw
              exact ⟨_, acc654, eG653, S650, h651, eo660, hw⟩
          intro H670 hw
          obtain ⟨G673, acc675, eG674, S671, h672, eo681, hw⟩ := hw
          have hw := hK625 _ (cW_mapF0 (by rw [List.length_map]) hw)
          have fr682 := S612.free n627
          refine ⟨_, _, rfl, (SqL.of h672), _, _, rfl, rfl, ?_⟩
          have hw := cW_bnd hw
          have hw := cW_ok hw
          have hw := hK621 _ hw
          exact ⟨((price_605 + (List.sum (acc675)))), _, _, rfl, (Same.trans eG614 eG674), (S671.sub all_nil), hw⟩
        · intro σ H684 hw
          obtain ⟨price_605, u606, G686, rfl, eG687, S685, hw⟩ := hw
          have hw := hK604 _ (cW_forS0 (by rw [d598.len, List.length_map]) hw)
          have hw : cW (F_block_price_r5  (price_605)) _ EE := hw
          unfold F_block_price_r5 at hw
          have hw := cW_ok hw
          have hw := hK601 _ hw
          exact ⟨(price_605), _, _, _, rfl, (Same.trans eG592 eG687), S685, hw⟩
      · intro σ H689 hw
        obtain ⟨price_582, u583, u584, G691, rfl, eG692, S690, hw⟩ := hw
        have hw := hK581 _ (cW_forS0 (by rw [d579.len, List.length_map]) hw)
        have hw : cW (F_block_price_r4  (price_582)) _ EE := hw
        unfold F_block_price_r4 at hw
        refine ⟨_, rfl, ?_⟩
        have hw := cW_ok hw
        exact hK0 _ hw _ S690.b0

abbrev N_clip : List Str := ["value", "low", "high"]
theorem sc_clip : FnScope N_clip ["value", "low", "high"] (defScope s_clip) := ⟨rfl, rfl, rfl, by decide +kernel, rfl, by decide +kernel, by decide +kernel⟩
theorem ok_clip (D : DefX K mg "clip" s_clip ["value", "low", "high"] pats_clip) (T : Txt w K mg AD)  : CalX P w K mg base 1 "clip" (sp_clip K AD) pats_clip := by
  refine D.ok sc_clip (fun vs H Q E h => ?_) (fun f cdv A_ outer s H vs Q E hr h => ?_)
  · obtain ⟨G, value', low', high', rfl, _⟩ := h
    rfl
  · obtain ⟨G, value', low', high', rfl, sG, hw⟩ := h
    refine ⟨_, (pss_one (ps_ret (pe_callB (call_min2 rfl) (by rfl) T.b_min (by decide +kernel) (pa_cons (pe_callB (call_max2 rfl) (by rfl) T.b_max (by decide +kernel) (pa_cons (pv 0) (pa_cons (pv 1) pa_nil))) (pa_cons (pv 2) pa_nil))))), ?_⟩
    obtain ⟨KK, EE, hK0, hE, hw⟩ := cW_gen hw
    have S0 := Sep.startG sG
    unfold F_clip at hw
    refine ⟨_, rfl, _, rfl, _, _, rfl, _, rfl, _, _, rfl, ?_⟩
    have hw := cW_ok hw
    exact hK0 _ hw

abbrev N__clip_component : List Str := ["component"]
theorem sc__clip_component : FnScope N__clip_component ["component"] (defScope s__clip_component) := ⟨rfl, rfl, rfl, by decide +kernel, rfl, by decide +kernel, by decide +kernel⟩
theorem ok__clip_component (D : DefX K mg "_clip_component" s__clip_component ["component"] pats__clip_component) (T : Txt w K mg AD) (c_clip : CalX P w K mg base 1 "clip" (sp_clip K AD) pats_clip) : CalX P w K mg base 2 "_clip_component" (sp__clip_component K AD) pats__clip_component := by
  refine D.ok sc__clip_component (fun vs H Q E h => ?_) (fun f cdv A_ outer s H vs Q E hr h => ?_)
  · obtain ⟨G, component', rfl, _⟩ := h
    rfl
  · obtain ⟨G, component', rfl, sG, hw⟩ := h
    refine ⟨_, (pss_one (ps_ret (vx_callX c_clip pat_clip_0 (.head _) hr (by decide) (takes_of rfl rfl rfl rfl) rfl (pa_cons (pv 0) (pa_cons (pe_un un_neg (C8.pe_gc rfl T.g_GREATEST_COMPONENT)) (pa_cons (C8.pe_gc rfl T.g_GREATEST_COMPONENT) pa_nil))) pk_nil))), ?_⟩
    obtain ⟨KK, EE, hK0, hE, hw⟩ := cW_gen hw
    have S0 := Sep.startG sG
    unfold F__clip_component at hw
    refine ⟨_, rfl, _, rfl, rfl, rfl, G, _, _, _, rfl, S0.sG, cW_call hw (fun v694 hw => ?_) (fun e he => hE e he)⟩
    have hw := cW_ok hw
    exact hK0 _ hw

abbrev N_clip_vector : List Str := ["x", "y"]
theorem sc_clip_vector : FnScope N_clip_vector ["x", "y"] (defScope s_clip_vector) := ⟨rfl, rfl, rfl, by decide +kernel, rfl, by decide +kernel, by decide +kernel⟩
theorem ok_clip_vector (D : DefX K mg "clip_vector" s_clip_vector ["x", "y"] pats_clip_vector) (T : Txt w K mg AD) (c__clip_component : CalX P w K mg base 2 "_clip_component" (sp__clip_component K AD) pats__clip_component) : CalX P w K mg base 3 "clip_vector" (sp_clip_vector K AD) pats_clip_vector := by
  refine D.ok sc_clip_vector (fun vs H Q E h => ?_) (fun f cdv A_ outer s H vs Q E hr h => ?_)
  · obtain ⟨G, x', y', rfl, _⟩ := h
    rfl
  · obtain ⟨G, x', y', rfl, sG, hw⟩ := h
    refine ⟨_, (pss_one (ps_ret (pe_tup (pa_cons (vx_callX c__clip_component pat__clip_component_0 (.head _) hr (by decide) (takes_of rfl rfl rfl rfl) rfl (pa_cons (pv 0) pa_nil) pk_nil) (pa_cons (vx_callX c__clip_component pat__clip_component_0 (.head _) hr (by decide) (takes_of rfl rfl rfl rfl) rfl (pa_cons (pv 1) pa_nil) pk_nil) pa_nil))))), ?_⟩
    obtain ⟨KK, EE, hK0, hE, hw⟩ := cW_gen hw
    have S0 := Sep.startG sG
    unfold F_clip_vector at hw
    refine ⟨_, rfl, rfl, rfl, G, _, rfl, S0.sG, cW_call hw (fun v695 hw => ?_) (fun e he => hE e he _ S0.b0)⟩
    refine ⟨_, rfl, rfl, rfl, G, _, rfl, S0.sG, cW_call hw (fun v696 hw => ?_) (fun e he => hE e he _ S0.b0)⟩
    refine ⟨(by show 2 ≤ sizeLine; decide), fun p697 n698 => ?_⟩
    generalize g699 : upd H p697 _ = H700
    obtain ⟨e701, h702⟩ := gen_new n698 g699
    have h703 : H700 p697 = some (.tup [V.int (v695), V.int (v696)]) := h702
    have fr704 := S0.free n698
    obtain ⟨G706, eG707, hg708, S705⟩ := S0.grow n698 e701 h703 fr704
    have hw := cW_ok hw
    exact hK0 _ hw _ _ _ S705.b0 S705.g0 S705.sG S705.gn (rp_mk2 hg708 (.int _) (.int _))

abbrev N_near_vectors : List Str := ["vector", "x", "y", "tried", "right", "down"]
theorem sc_near_vectors : FnScope N_near_vectors ["vector"] (defScope s_near_vectors) := ⟨rfl, rfl, rfl, by decide +kernel, rfl, by decide +kernel, by decide +kernel⟩
theorem ok_near_vectors (D : DefX K mg "near_vectors" s_near_vectors ["vector"] pats_near_vectors) (T : Txt w K mg AD) (c_clip_vector : CalX P w K mg base 3 "clip_vector" (sp_clip_vector K AD) pats_clip_vector) : CalX P w K mg base 4 "near_vectors" (sp_near_vectors K AD) pats_near_vectors := by
  refine D.ok sc_near_vectors (fun vs H Q E h => ?_) (fun f cdv A_ outer s H vs Q E hr h => ?_)
  · obtain ⟨G, v_vector, vector', rfl, _⟩ := h
    rfl
  · obtain ⟨G, v_vector, vector', rfl, sG, r_vector, hw⟩ := h
    refine ⟨_, (pss_cons (ps_asg (pv 0) (pg_tupK (K := K) (n := 2) (pgs_cons (pg_name (i := 1) sc_near_vectors.nd rfl (Or.inl rfl)) (pgs_cons (pg_name (i := 2) sc_near_vectors.nd rfl (Or.inl rfl)) pgs_nil))))
      (pss_cons (ps_set (i := 3) sc_near_vectors.nd rfl (Or.inl rfl) (pe_lst (pa_cons (pe_tup (pa_cons (pv 1) (pa_cons (pv 2) pa_nil))) (pa_cons (pe_tup (pa_cons (pe_op op_sub (pv 1) pe_int) (pa_cons (pv 2) pa_nil))) (pa_cons (pe_tup (pa_cons (pe_op op_add (pv 1) pe_int) (pa_cons (pv 2) pa_nil))) (pa_cons (pe_tup (pa_cons (pv 1) (pa_cons (pe_op op_sub (pv 2) pe_int) pa_nil))) (pa_cons (pe_tup (pa_cons (pv 1) (pa_cons (pe_op op_add (pv 2) pe_int) pa_nil))) pa_nil)))))))
      (pss_one (ps_ret (pe_lc (own := [("right", 4), ("down", 5)]) (g := gTup K 2 (gCons (gName 4) (gCons (gName 5) gNil))) (by rfl) sc_near_vectors.nd (pi_listK (K := K) (pv 3)) (blkOk_by (own := [("right", 4), ("down", 5)]) (N := N_near_vectors) (sc := defScope s_near_vectors) (by decide +kernel)) (fun _ _ _ _ _ => (pg_tupK (K := K) (n := 2) (pgs_cons (pg_name (i := 4) sc_near_vectors.nd rfl (Or.inl rfl)) (pgs_cons (pg_name (i := 5) sc_near_vectors.nd rfl (Or.inl rfl)) pgs_nil)))) (fun _ _ _ _ _ => pts_nil) (fun _ _ _ _ _ => (vx_callX c_clip_vector pat_clip_vector_0 (.head _) hr (by decide) takes0 rfl (pa_cons (pv 4) (pa_cons (pv 5) pa_nil)) pk_nil))))))), ?_⟩
    obtain ⟨KK, EE, hK0, hE, hw⟩ := cW_gen hw
    have S0 := Sep.startG sG
    unfold F_near_vectors at hw
    obtain ⟨a709, v711, v712, rfl, h710, r713, r714⟩ := rp_tup2 r_vector
    obtain rfl := rp_int r713
    obtain rfl := rp_int r714
    refine ⟨_, rfl, _, _, rfl, (SqT.of (S0.bM _ _ h710)), rfl, _, _, rfl, _, _, rfl, rfl, _, rfl, _, rfl, (by show 2 ≤ sizeLine; decide), fun p715 n716 => ?_⟩
    generalize g717 : upd H p715 _ = H718
    obtain ⟨e719, h720⟩ := gen_new n716 g717
    have h721 : H718 p715 = some (.tup [V.int (vector'.1), V.int (vector'.2)]) := h720
    have fr722 := S0.free n716
    obtain ⟨G724, eG725, hg726, S723⟩ := S0.grow n716 e719 h721 fr722
    refine ⟨_, rfl, _, _, rfl, rfl, _, rfl, (by show 2 ≤ sizeLine; decide), fun p727 n728 => ?_⟩
    generalize g729 : upd H718 p727 _ = H730
    obtain ⟨e731, h732⟩ := gen_new n728 g729
    have h733 : H730 p727 = some (.tup [V.int ((vector'.1 - 4)), V.int (vector'.2)]) := h732
    have fr734 := S723.free n728
    obtain ⟨G736, eG737, hg738, S735⟩ := S723.grow n728 e731 h733 fr734
    refine ⟨_, rfl, _, _, rfl, rfl, _, rfl, (by show 2 ≤ sizeLine; decide), fun p739 n740 => ?_⟩
    generalize g741 : upd H730 p739 _ = H742
    obtain ⟨e743, h744⟩ := gen_new n740 g741
    have h745 : H742 p739 = some (.tup [V.int ((vector'.1 + 4)), V.int (vector'.2)]) := h744
    have fr746 := S735.free n740
    obtain ⟨G748, eG749, hg750, S747⟩ := S735.grow n740 e743 h745 fr746
    refine ⟨_, rfl, _, rfl, _, _, rfl, rfl, (by show 2 ≤ sizeLine; decide), fun p751 n752 => ?_⟩
    generalize g753 : upd H742 p751 _ = H754
    obtain ⟨e755, h756⟩ := gen_new n752 g753
    have h757 : H754 p751 = some (.tup [V.int (vector'.1), V.int ((vector'.2 - 4))]) := h756
    have fr758 := S747.free n752
    obtain ⟨G760, eG761, hg762, S759⟩ := S747.grow n752 e755 h757 fr758
    refine ⟨_, rfl, _, rfl, _, _, rfl, rfl, (by show 2 ≤ sizeLine; decide), fun p763 n764 => ?_⟩
    generalize g765 : upd H754 p763 _ = H766
    obtain ⟨e767, h768⟩ := gen_new n764 g765
    have h769 : H766 p763 = some (.tup [V.int (vector'.1), V.int ((vector'.2 + 4))]) := h768
    have fr770 := S759.free n764
    obtain ⟨G772, eG773, hg774, S771⟩ := S759.grow n764 e767 h769 fr770
    refine ⟨(by show 5 ≤ sizeLine; decide), fun p775 n776 => ?_⟩
    generalize g777 : upd H766 p775 _ = H778
    obtain ⟨e779, h780⟩ := gen_new n776 g777
    have h781 : H778 p775 = some (.lst ([V.ref p715, V.ref p727, V.ref p739, V.ref p751, V.ref p763])) := h780
    have fr782 := S771.free n776
    have S783 := S771.new n776 e779 h781 fr782
    have d784 : RpAll G772 ([V.ref p715, V.ref p727, V.ref p739, V.ref p751, V.ref p763]) (([(vector'.1, vector'.2), ((vector'.1 - 4), vector'.2), ((vector'.1 + 4), vector'.2), (vector'.1, (vector'.2 - 4)), (vector'.1, (vector'.2 + 4))] : (List (Int × Int))).map (encT2 PyData.int PyData.int)) := (RpAll.cons (rp_mk2 (eG773 _ _ (eG761 _ _ (eG749 _ _ (eG737 _ _ hg726)))) (.int _) (.int _)) (RpAll.cons (rp_mk2 (eG773 _ _ (eG761 _ _ (eG749 _ _ hg738))) (.int _) (.int _)) (RpAll.cons (rp_mk2 (eG773 _ _ (eG761 _ _ hg750)) (.int _) (.int _)) (RpAll.cons (rp_mk2 (eG773 _ _ hg762) (.int _) (.int _)) (RpAll.cons (rp_mk2 hg774 (.int _) (.int _)) RpAll.nil)))))
    obtain ⟨K786, hK787, hw⟩ := cW_push hw
    refine ⟨_, rfl, _, rfl, ⟨_, (SqL.of h781)⟩, fun D788 n789 => lc_list (K := K) (a := p775) (xs := [V.ref p715, V.ref p727, V.ref p739, V.ref p751, V.ref p763]) (fun i H' => ∃ (G' : Hp) (acc791 : (List (Int × Int))) (vs792 : List V), Same G772 G' ∧ Sep [] H G G' H' [D788, p775] ∧ H' p775 = some (.lst ([V.ref p715, V.ref p727, V.ref p739, V.ref p751, V.ref p763])) ∧ H' D788 = some (.lst vs792) ∧ RpAll G' vs792 ((acc791 : (List (Int × Int))).map (encT2 PyData.int PyData.int)) ∧ Same H778 H' ∧ cW (mapA (List.drop i ([(vector'.1, vector'.2), ((vector'.1 - 4), vector'.2), ((vector'.1 + 4), vector'.2), (vector'.1, (vector'.2 - 4)), (vector'.1, (vector'.2 + 4))])) acc791 (fun x => noEr (F_near_vectors_c1  x))) K786 EE) ?_ ?_ ?_ ?_⟩
    · generalize g793 : upd H778 D788 _ = H794
      obtain ⟨e795, h796⟩ := gen_new n789 g793
      have fr797 := S783.free n789
      have S798 := S783.new n789 e795 h796 fr797
      have h799 := (e795 _ _ h781)
      exact ⟨_, [], [], Same.refl _, S798, h799, h796, RpAll.nil, e795, hw⟩
    · intro i H800 _ hw
      obtain ⟨G803, acc805, vs806, eG804, S801, h812, h802, d807, eo811, hw⟩ := hw
      exact (SqL.of h812)
    · intro i x H813 hj hw
      obtain ⟨G816, acc818, vs819, eG817, S814, h825, h815, d820, eo824, hw⟩ := hw
      obtain ⟨x826, hx, r827⟩ := RpAll.get (RpAll.mono eG817 d784) hj
      obtain ⟨a828, v830, v831, rfl, h829, r832, r833⟩ := rp_tup2 r827
      obtain rfl := rp_int r832
      obtain rfl := rp_int r833
      obtain ⟨z834, hw⟩ := cW_mapA hx hw
      have hw := cW_noEr hw
      have hw : cW (F_near_vectors_c1  (x826)) _ (fun _ => False) := hw
      unfold F_near_vectors_c1 at hw
      refine ⟨_, _, rfl, (SqT.of (S814.sG _ _ h829)), rfl, _, _, rfl, _, _, rfl, rfl, rfl, ?_⟩
      refine tyes_go ?_
      refine ⟨_, rfl, _, rfl, rfl, rfl, G816, _, _, rfl, S814.sG, cW_call hw (fun v836 hw v839 H837 G840 e838 eG841 sG842 hn843 r844 => ?_) (fun e he => he.elim)⟩
      have S845 := S814.step e838 eG841 sG842 hn843
      obtain ⟨a846, v848, v849, rfl, h847, r850, r851⟩ := rp_tup2 r844
      obtain rfl := rp_int r850
      obtain rfl := rp_int r851
      have h852 := (e838 _ _ h815)
      refine ⟨_, h852, (app_len (RpAll.mono eG841 d820) z834), ?_⟩
      generalize g853 : upd H837 D788 _ = H854
      obtain ⟨x855, h856⟩ := gen_mut g853
      have S857 := S845.mut1 x855 (.head _) h856
      have hw := cW_ok hw
      have h858 := (x855 _ _ (e838 _ _ h825) (ne_of_none h781 n789))
      exact ⟨_, (acc818 ++ [v836]), _, (Same.trans eG817 eG841), S857, h858, h856, (app_map (RpAll.mono eG841 d820) (RpAll.one (rp_mk2 h847 (.int _) (.int _)))), (same_mut (Same.trans eo824 e838) x855 n789), hw⟩
    intro H859 hw
    obtain ⟨G862, acc864, vs865, eG863, S860, h871, h861, d866, eo870, hw⟩ := hw
    have hw := hK787 _ (cW_mapA0 (by rw [(RpAll.mono eG863 d784).len, List.length_map]) hw)
    have fr872 := S783.free n789
    obtain ⟨G873, eG874, hg875, S876⟩ := Sep.freeze (O' := [p775]) S860 (.head _) h861 fr872 ((all_cons ⟨(.tail _ (.head _)), (ne_of_none h781 n789)⟩ all_nil))
    have hw := cW_ok hw
    exact hK0 _ hw _ _ _ S876.b0 S876.g0 S876.sG S876.gn (rp_mk_list hg875 (RpAll.mono eG874 d866))

abbrev N__law_cell : List Str := ["script", "k"]
theorem sc__law_cell : FnScope N__law_cell ["script", "k"] (defScope s__law_cell) := ⟨rfl, rfl, rfl, by decide +kernel, rfl, by decide +kernel, by decide +kernel⟩
theorem ok__law_cell (D : DefX K mg "_law_cell" s__law_cell ["script", "k"] pats__law_cell) (T : Txt w K mg AD)  : CalX P w K mg base 1 "_law_cell" (sp__law_cell K AD) pats__law_cell := by
  refine D.ok sc__law_cell (fun vs H Q E h => ?_) (fun f cdv A_ outer s H vs Q E hr h => ?_)
  · obtain ⟨G, a_script, script', k', rfl, _⟩ := h
    rfl
  · obtain ⟨G, a_script, script', k', rfl, sG, q_script, hw⟩ := h
    refine ⟨_, (pss_cons (ps_if (pt_cmp (pc_lt (pv 1) (pe_callB (call_lenLiK (K := K)) (by rfl) T.b_len (by decide +kernel) (pa_cons (pv 0) pa_nil)))) (pss_one (ps_ret (pe_callB call_abs (by rfl) T.b_abs (by decide +kernel) (pa_cons (pe_callTy call_int1 (by rfl) T.b_int (by decide +kernel) (pa_cons (pe_ix (ix_listK (K := K)) (pv 0) (pv 1) (fun _ _ => rfl)) pa_nil)) pa_nil)))) pss_nil)
      (pss_one (ps_ret pe_int))), ?_⟩
    obtain ⟨KK, EE, hK0, hE, hw⟩ := cW_gen hw
    have S0 := Sep.startG sG
    unfold F__law_cell at hw
    refine ⟨_, rfl, _, rfl, _, _, rfl, (S0.b0.seq q_script), _, _, rfl, rfl, _, rfl, ?_⟩
    refine iteD (fun c877 => ?_) (fun c877 => ?_)
    · have hw := cW_pos c877 hw
      obtain ⟨g878, hw⟩ := cW_grd hw
      refine ⟨_, rfl, _, rfl, _, _, _, _, rfl, rfl, (S0.b0.seq q_script), (atI_map g878), .inl ⟨_, rfl, ?_⟩⟩
      refine ⟨_, rfl, ?_⟩
      have hw := cW_ok hw
      exact hK0 _ hw
    · have hw := cW_neg c877 hw
      have hw := cW_ok hw
      exact hK0 _ hw

abbrev N__law_is_integer : List Str := ["actual"]
theorem sc__law_is_integer : FnScope N__law_is_integer ["actual"] (defScope s__law_is_integer) := ⟨rfl, rfl, rfl, by decide +kernel, rfl, by decide +kernel, by decide +kernel⟩
theorem ok__law_is_integer (D : DefX K mg "_law_is_integer" s__law_is_integer ["actual"] pats__law_is_integer) (T : Txt w K mg AD)  : CalX P w K mg base 1 "_law_is_integer" (sp__law_is_integer K AD) pats__law_is_integer := by
  refine D.ok sc__law_is_integer (fun vs H Q E h => ?_) (fun f cdv A_ outer s H vs Q E hr h => ?_)
  · obtain ⟨G, actual', rfl, _⟩ := h
    rfl
  · obtain ⟨G, actual', rfl, sG, hw⟩ := h
    refine ⟨_, (pss_one (ps_ret (pe_and (pe_callB call_isi (by rfl) T.b_isinstance (by decide +kernel) (pa_cons (pv 0) (pa_cons (pe_bltn (v := V.ty "int") (u := Value.type "int") (by rfl) T.b_int (by decide +kernel) rfl) pa_nil))) (pe_one (pe_not (pe_callB call_isi (by rfl) T.b_isinstance (by decide +kernel) (pa_cons (pv 0) (pa_cons (pe_bltn (v := V.ty "bool") (u := Value.type "bool") (by rfl) T.b_bool (by decide +kernel) rfl) pa_nil)))))))), ?_⟩
    obtain ⟨KK, EE, hK0, hE, hw⟩ := cW_gen hw
    have S0 := Sep.startG sG
    unfold F__law_is_integer at hw
    refine ⟨_, rfl, _, _, _, _, _, rfl, (.ty _), (.base (.int _)), rfl, _, rfl, ?_⟩
    refine iteT ?_
    refine ⟨_, rfl, _, _, _, _, _, rfl, (.ty _), (.base (.int _)), rfl, _, rfl, ?_⟩
    have hw := cW_ok hw
    exact hK0 _ hw

abbrev N__law_price : List Str := ["block", "price", "blocks", "levels", "level", "worth", "k"]
theorem sc__law_price : FnScope N__law_price ["block"] (defScope s__law_price) := ⟨rfl, rfl, rfl, by decide +kernel, rfl, by decide +kernel, by decide +kernel⟩
theorem ok__law_price (D : DefX K mg "_law_price" s__law_price ["block"] pats__law_price) (T : Txt w K mg AD)  : CalX P w K mg base 1 "_law_price" (sp__law_price K AD) pats__law_price := by
  refine D.ok sc__law_price (fun vs H Q E h => ?_) (fun f cdv A_ outer s H vs Q E hr h => ?_)
  · obtain ⟨G, v_block, block', rfl, _⟩ := h
    rfl
  · obtain ⟨G, v_block, block', rfl, sG, r_block, hw⟩ := h
    refine ⟨_, (pss_cons (ps_if (pt_cmpR op_eq (pe_ix (ix_tupK (K := K)) (pv 0) pe_int (fun _ _ => rfl)) pe_str (nomark _)) (pss_one (ps_ret pe_int)) pss_nil)
      (pss_cons (ps_set (i := 1) sc__law_price.nd rfl (Or.inl rfl) (pe_ifExp (pt_cmpR op_eq (pe_ix (ix_tupK (K := K)) (pv 0) pe_int (fun _ _ => rfl)) pe_str (nomark _)) pe_int pe_int))
      (pss_cons (ps_for (passes_of rfl) rfl (pi_listK (K := K) (pe_ix (ix_tupK (K := K)) (pv 0) pe_int (fun _ _ => rfl))) (pg_name (i := 2) sc__law_price.nd rfl (Or.inl rfl)) (pss_one (ps_for (passes_of rfl) rfl (pi_listK (K := K) (pv 2)) (pg_name (i := 3) sc__law_price.nd rfl (Or.inl rfl)) (pss_one (ps_for (passes_of rfl) rfl (pi_listK (K := K) (pv 3)) (pg_name (i := 4) sc__law_price.nd rfl (Or.inl rfl)) (pss_cons (ps_set (i := 5) sc__law_price.nd rfl (Or.inl rfl) (pe_callB call_abs (by rfl) T.b_abs (by decide +kernel) (pa_cons (pv 4) pa_nil)))
      (C8.pss_cut (ps_if (pt_cmp (pc_gt (pv 5) pe_int)) (pss_one (ps_aug (i := 1) sc__law_price.nd rfl (Or.inl rfl) pe_int (pip iop_add))) pss_nil)
      (pss_one (ps_for (passes_of rfl) rfl (pi_range1 rfl T.b_range (pa_cons pe_int pa_nil)) (pg_name (i := 6) sc__law_price.nd rfl (Or.inl rfl)) (pss_one (ps_if (pt_cmp (pc_ge (pv 5) (pe_op op_shlW pe_int (pv 6)))) (pss_one (ps_aug (i := 1) sc__law_price.nd rfl (Or.inl rfl) pe_int (pip iop_add))) pss_nil)))))))))))
      (pss_one (ps_ret (pv 1)))))), ?_⟩
    obtain ⟨KK, EE, hK0, hE, hw⟩ := cW_gen hw
    have S0 := Sep.startG sG
    unfold F__law_price at hw
    obtain ⟨g879, hw⟩ := cW_grd hw
    obtain ⟨a880, vs881, v882, e883, h884, e885, r886⟩ := rp_dget (k := 0) g879 r_block
    obtain ⟨g887, hw⟩ := cW_grd hw
    have r888 : Rp (hideL [] H) v882 (PyData.str ((cS).dec ((dGet (block') 0)))) := rp_dcast cS g887 r886
    obtain rfl := rp_str r888
    refine ⟨_, rfl, _, _, _, _, e883, rfl, (SqT.of (S0.bM _ _ h884)), e885, rfl, _, rfl, ?_⟩
    refine iteD (fun c889 => ?_) (fun c889 => ?_)
    · have hw := cW_pos c889 hw
      have hw := cW_ok hw
      exact hK0 _ hw _ S0.b0
    · have hw := cW_neg c889 hw
      obtain ⟨g890, hw⟩ := cW_grd hw
      obtain ⟨a891, vs892, v893, e894, h895, e896, r897⟩ := rp_dget (k := 0) g890 r_block
      obtain ⟨g898, hw⟩ := cW_grd hw
      have r899 : Rp (hideL [] H) v893 (PyData.str ((cS).dec ((dGet (block') 0)))) := rp_dcast cS g898 r897
      obtain rfl := rp_str r899
      refine ⟨_, rfl, _, _, _, _, e894, rfl, (SqT.of (S0.bM _ _ h895)), e896, rfl, _, rfl, ?_⟩
      refine iteD (fun c900 => ?_) (fun c900 => ?_)
      · have hw := cW_pos c900 hw
        obtain ⟨g901, hw⟩ := cW_grd hw
        obtain ⟨a902, vs903, v904, e905, h906, e907, r908⟩ := rp_dget (k := 3) g901 r_block
        obtain ⟨g909, hw⟩ := cW_grd hw
        have r910 : Rp (hideL [] H) v904 ((encL (encL (encL PyData.int))) (((cL (cL (cL cI)))).dec ((dGet (block') 3)))) := rp_dcast (cL (cL (cL cI))) g909 r908
        obtain ⟨a911, vs912, rfl, h913, d914⟩ := rp_list r910
        obtain ⟨K915, hK916, hw⟩ := cW_push hw
        refine ⟨_, rfl, _, _, _, _, e905, rfl, (SqT.of (S0.bM _ _ h906)), e907, _, rfl, ⟨_, (SqL.of (S0.bM _ _ h913))⟩, for_list (K := K) (a := a911) (xs := vs912) (fun i σ H' => ∃ (price_917 : Int) (u918 : Option V) (u919 : Option V) (u920 : Option V) (u921 : Option V) (u922 : Option V) (G' : Hp), σ = [some (v_block), some (V.int price_917), u918, u919, u920, u921, u922] ∧ Same G G' ∧ Sep [] H G G' H' [] ∧ cW (forS (List.drop i ((((cL (cL (cL cI)))).dec ((dGet (block') 3))))) price_917 (fun s x => F__law_price_b1  s x)) K915 EE) ?_ ?_ ?_ ?_⟩
        · exact ⟨(1), _, _, _, _, _, _, rfl, (Same.refl _), S0, hw⟩
        · intro i σ H923 _ hw
          obtain ⟨price_917, u918, u919, u920, u921, u922, G925, rfl, eG926, S924, hw⟩ := hw
          exact (SqL.of (S924.bM _ _ h913))
        · intro i x σ H927 hj hw
          obtain ⟨price_917, u918, u919, u920, u921, u922, G929, rfl, eG930, S928, hw⟩ := hw
          obtain ⟨x931, hx, r932⟩ := RpAll.get d914 hj
          obtain ⟨a933, vs934, rfl, h935, d936⟩ := rp_list r932
          have hw := cW_forS hx hw
          have hw : cW (F__law_price_b1  (price_917) (x931)) _ EE := hw
          unfold F__law_price_b1 at hw
          obtain ⟨K938, hK939, hw⟩ := cW_name hw
          obtain ⟨K941, hK942, hw⟩ := cW_push hw
          refine ⟨_, rfl, _, rfl, ⟨_, (SqL.of (S928.bM _ _ h935))⟩, for_list (K := K) (a := a933) (xs := vs934) (fun i σ H' => ∃ (price_943 : Int) (u944 : Option V) (u945 : Option V) (u946 : Option V) (u947 : Option V) (G' : Hp), σ = [some (v_block), some (V.int price_943), some (V.ref a933), u944, u945, u946, u947] ∧ Same G929 G' ∧ Sep [] H G G' H' [] ∧ cW (forS (List.drop i (x931)) price_943 (fun s x => F__law_price_b2  s x)) K941 EE) ?_ ?_ ?_ ?_⟩
          · exact ⟨(price_917), _, _, _, _, _, rfl, (Same.refl _), S928, hw⟩
          · intro i σ H948 _ hw
            obtain ⟨price_943, u944, u945, u946, u947, G950, rfl, eG951, S949, hw⟩ := hw
            exact (SqL.of (S949.bM _ _ h935))
          · intro i x σ H952 hj hw
            obtain ⟨price_943, u944, u945, u946, u947, G954, rfl, eG955, S953, hw⟩ := hw
            obtain ⟨x956, hx, r957⟩ := RpAll.get d936 hj
            obtain ⟨a958, rfl, h959⟩ := rp_ints r957
            have hw := cW_forS hx hw
            have hw : cW (F__law_price_b2  (price_943) (x956)) _ EE := hw
            unfold F__law_price_b2 at hw
            obtain ⟨K961, hK962, hw⟩ := cW_name hw
            obtain ⟨K964, hK965, hw⟩ := cW_push hw
            refine ⟨_, rfl, _, rfl, ⟨_, (SqL.of (S953.bM _ _ h959))⟩, for_list (K := K) (a := a958) (xs := (x956 : List Int).map V.int) (fun i σ H' => ∃ (price_966 : Int) (u967 : Option V) (u968 : Option V) (u969 : Option V) (G' : Hp), σ = [some (v_block), some (V.int price_966), some (V.ref a933), some (V.ref a958), u967, u968, u969] ∧ Same G954 G' ∧ Sep [] H G G' H' [] ∧ cW (forS (List.drop i (x956)) price_966 (fun s x => F__law_price_b3  s x)) K964 EE) ?_ ?_ ?_ ?_⟩
            · exact ⟨(price_943), _, _, _, _, rfl, (Same.refl _), S953, hw⟩
            · intro i σ H970 _ hw
              obtain ⟨price_966, u967, u968, u969, G972, rfl, eG973, S971, hw⟩ := hw
              exact (SqL.of (S971.bM _ _ h959))
            · intro i x σ H974 hj hw
              obtain ⟨price_966, u967, u968, u969, G976, rfl, eG977, S975, hw⟩ := hw
              obtain ⟨x978, hx, rfl⟩ := map_get hj
              have hw := cW_forS hx hw
              have hw : cW (F__law_price_b3  (price_966) (x978)) _ EE := hw
              unfold F__law_price_b3 at hw
              obtain ⟨K980, hK981, hw⟩ := cW_name hw
              refine ⟨_, rfl, _, rfl, ?_⟩
              have hw := cW_bnd hw
              refine ⟨fun σ H' => ∃ (price_986 : Int) (G' : Hp), σ = [some (v_block), some (V.int price_986), some (V.ref a933), some (V.ref a958), some (V.int (x978)), some (V.int ((if x978 < 0 then -x978 else x978))), u969] ∧ Same G976 G' ∧ Sep [] H G G' H' [] ∧ cW (F__law_price_k4 ((if x978 < 0 then -x978 else x978)) price_986) K980 EE, ?_, ?_⟩
              · obtain ⟨K987, hK988, hw⟩ := cW_push hw
                refine ⟨_, rfl, _, _, rfl, rfl, _, rfl, ?_⟩
                refine iteD (fun c989 => ?_) (fun c989 => ?_)
                · have hw := cW_pos c989 hw
                  refine ⟨_, rfl, _, _, rfl, rfl, ?_⟩
                  have hw := cW_bnd hw
                  have hw := cW_ok hw
                  have hw := hK988 _ hw
                  exact ⟨((price_966 + 1)), _, rfl, (Same.refl _), S975, hw⟩
                · have hw := cW_neg c989 hw
                  have hw := cW_ok hw
                  have hw := hK988 _ hw
                  exact ⟨(price_966), _, rfl, (Same.refl _), S975, hw⟩
              · intro σ H991 hw
                obtain ⟨price_986, G993, rfl, eG994, S992, hw⟩ := hw
                unfold F__law_price_k4 at hw
                obtain ⟨K996, hK997, hw⟩ := cW_push hw
                refine ⟨_, rfl, (by decide), (by decide), for_range (lo := 0) (n := Int.toNat (30)) (fun i σ H' => ∃ (price_998 : Int) (u999 : Option V) (G' : Hp), σ = [some (v_block), some (V.int price_998), some (V.ref a933), some (V.ref a958), some (V.int (x978)), some (V.int ((if x978 < 0 then -x978 else x978))), u999] ∧ Same G993 G' ∧ Sep [] H G G' H' [] ∧ cW (forS (List.drop i (rng (0) (Int.toNat (30)))) price_998 (fun s x => F__law_price_b5 ((if x978 < 0 then -x978 else x978)) s x)) K996 EE) ?_ ?_ ?_⟩
                · exact ⟨(price_986), _, _, rfl, (Same.refl _), S992, hw⟩
                · intro i σ H1000 hi hw
                  obtain ⟨price_998, u999, G1002, rfl, eG1003, S1001, hw⟩ := hw
                  have hw := cW_forS (rng_get hi) hw
                  generalize (0 + (i : Int)) = x1004 at hw ⊢
                  have hw : cW (F__law_price_b5 ((if x978 < 0 then -x978 else x978)) (price_998) (x1004)) _ EE := hw
                  unfold F__law_price_b5 at hw
                  obtain ⟨K1006, hK1007, hw⟩ := cW_name hw
                  obtain ⟨g1009, hw⟩ := cW_grd hw
                  refine ⟨_, rfl, _, rfl, _, _, rfl, rfl, (shl_side g1009.1 g1009.2.1 g1009.2.2.1 g1009.2.2.2), _, _, rfl, rfl, _, rfl, ?_⟩
                  refine iteD (fun c1010 => ?_) (fun c1010 => ?_)
                  · have hw := cW_pos c1010 hw
                    refine ⟨_, rfl, _, _, rfl, rfl, ?_⟩
                    have hw := cW_bnd hw
                    have hw := cW_ok hw
                    have hw := hK1007 _ hw
                    exact ⟨((price_998 + 2)), _, _, rfl, eG1003, S1001, hw⟩
                  · have hw := cW_neg c1010 hw
                    have hw := cW_ok hw
                    have hw := hK1007 _ hw
                    exact ⟨(price_998), _, _, rfl, eG1003, S1001, hw⟩
                · intro σ H1012 hw
                  obtain ⟨price_998, u999, G1014, rfl, eG1015, S1013, hw⟩ := hw
                  have hw := hK997 _ (cW_forS0 (rng_len _ _).symm hw)
                  have hw : cW (F__law_price_r5  (price_998)) _ EE := hw
                  unfold F__law_price_r5 at hw
                  have hw := cW_ok hw
                  have hw := hK981 _ hw
                  exact ⟨(price_998), _, _, _, _, rfl, (Same.trans (Same.trans eG977 eG994) eG1015), S1013, hw⟩
            · intro σ H1017 hw
              obtain ⟨price_966, u967, u968, u969, G1019, rfl, eG1020, S1018, hw⟩ := hw
              have hw := hK965 _ (cW_forS0 (by rw [List.length_map]) hw)
              have hw : cW (F__law_price_r3  (price_966)) _ EE := hw
              unfold F__law_price_r3 at hw
              have hw := cW_ok hw
              have hw := hK962 _ hw
              exact ⟨(price_966), _, _, _, _, _, rfl, (Same.trans eG955 eG1020), S1018, hw⟩
          · intro σ H1022 hw
            obtain ⟨price_943, u944, u945, u946, u947, G1024, rfl, eG1025, S1023, hw⟩ := hw
            have hw := hK942 _ (cW_forS0 (by rw [d936.len, List.length_map]) hw)
            have hw : cW (F__law_price_r2  (price_943)) _ EE := hw
            unfold F__law_price_r2 at hw
            have hw := cW_ok hw
            have hw := hK939 _ hw
            exact ⟨(price_943), _, _, _, _, _, _, rfl, (Same.trans eG930 eG1025), S1023, hw⟩
        · intro σ H1027 hw
          obtain ⟨price_917, u918, u919, u920, u921, u922, G1029, rfl, eG1030, S1028, hw⟩ := hw
          have hw := hK916 _ (cW_forS0 (by rw [d914.len, List.length_map]) hw)
          have hw : cW (F__law_price_r1  (price_917)) _ EE := hw
          unfold F__law_price_r1 at hw
          refine ⟨_, rfl, ?_⟩
          have hw := cW_ok hw
          exact hK0 _ hw _ S1028.b0
      · have hw := cW_neg c900 hw
        obtain ⟨g1032, hw⟩ := cW_grd hw
        obtain ⟨a1033, vs1034, v1035, e1036, h1037, e1038, r1039⟩ := rp_dget (k := 3) g1032 r_block
        obtain ⟨g1040, hw⟩ := cW_grd hw
        have r1041 : Rp (hideL [] H) v1035 ((encL (encL (encL PyData.int))) (((cL (cL (cL cI)))).dec ((dGet (block') 3)))) := rp_dcast (cL (cL (cL cI))) g1040 r1039
        obtain ⟨a1042, vs1043, rfl, h1044, d1045⟩ := rp_list r1041
        obtain ⟨K1046, hK1047, hw⟩ := cW_push hw
        refine ⟨_, rfl, _, _, _, _, e1036, rfl, (SqT.of (S0.bM _ _ h1037)), e1038, _, rfl, ⟨_, (SqL.of (S0.bM _ _ h1044))⟩, for_list (K := K) (a := a1042) (xs := vs1043) (fun i σ H' => ∃ (price_1048 : Int) (u1049 : Option V) (u1050 : Option V) (u1051 : Option V) (u1052 : Option V) (u1053 : Option V) (G' : Hp), σ = [some (v_block), some (V.int price_1048), u1049, u1050, u1051, u1052, u1053] ∧ Same G G' ∧ Sep [] H G G' H' [] ∧ cW (forS (List.drop i ((((cL (cL (cL cI)))).dec ((dGet (block') 3))))) price_1048 (fun s x => F__law_price_b6  s x)) K1046 EE) ?_ ?_ ?_ ?_⟩
        · exact ⟨(3), _, _, _, _, _, _, rfl, (Same.refl _), S0, hw⟩
        · intro i σ H1054 _ hw
          obtain ⟨price_1048, u1049, u1050, u1051, u1052, u1053, G1056, rfl, eG1057, S1055, hw⟩ := hw
          exact (SqL.of (S1055.bM _ _ h1044))
        · intro i x σ H1058 hj hw
          obtain ⟨price_1048, u1049, u1050, u1051, u1052, u1053, G1060, rfl, eG1061, S1059, hw⟩ := hw
          obtain ⟨x1062, hx, r1063⟩ := RpAll.get d1045 hj
          obtain ⟨a1064, vs1065, rfl, h1066, d1067⟩ := rp_list r1063
          have hw := cW_forS hx hw
          have hw : cW (F__law_price_b6  (price_1048) (x1062)) _ EE := hw
          unfold F__law_price_b6 at hw
          obtain ⟨K1069, hK1070, hw⟩ := cW_name hw
          obtain ⟨K1072, hK1073, hw⟩ := cW_push hw
          refine ⟨_, rfl, _, rfl, ⟨_, (SqL.of (S1059.bM _ _ h1066))⟩, for_list (K := K) (a := a1064) (xs := vs1065) (fun i σ H' => ∃ (price_1074 : Int) (u1075 : Option V) (u1076 : Option V) (u1077 : Option V) (u1078 : Option V) (G' : Hp), σ = [some (v_block), some (V.int price_1074), some (V.ref a1064), u1075, u1076, u1077, u1078] ∧ Same G1060 G' ∧ Sep [] H G G' H' [] ∧ cW (forS (List.drop i (x1062)) price_1074 (fun s x => F__law_price_b7  s x)) K1072 EE) ?_ ?_ ?_ ?_⟩
          · exact ⟨(price_1048), _, _, _, _, _, rfl, (Same.refl _), S1059, hw⟩
          · intro i σ H1079 _ hw
            obtain ⟨price_1074, u1075, u1076, u1077, u1078, G1081, rfl, eG1082, S1080, hw⟩ := hw
            exact (SqL.of (S1080.bM _ _ h1066))
          · intro i x σ H1083 hj hw
            obtain ⟨price_1074, u1075, u1076, u1077, u1078, G1085, rfl, eG1086, S1084, hw⟩ := hw
            obtain ⟨x1087, hx, r1088⟩ := RpAll.get d1067 hj
            obtain ⟨a1089, rfl, h1090⟩ := rp_ints r1088
            have hw := cW_forS hx hw
            have hw : cW (F__law_price_b7  (price_1074) (x1087)) _ EE := hw
            unfold F__law_price_b7 at hw
            obtain ⟨K1092, hK1093, hw⟩ := cW_name hw
            obtain ⟨K1095, hK1096, hw⟩ := cW_push hw
            refine ⟨_, rfl, _, rfl, ⟨_, (SqL.of (S1084.bM _ _ h1090))⟩, for_list (K := K) (a := a1089) (xs := (x1087 : List Int).map V.int) (fun i σ H' => ∃ (price_1097 : Int) (u1098 : Option V) (u1099 : Option V) (u1100 : Option V) (G' : Hp), σ = [some (v_block), some (V.int price_1097), some (V.ref a1064), some (V.ref a1089), u1098, u1099, u1100] ∧ Same G1085 G' ∧ Sep [] H G G' H' [] ∧ cW (forS (List.drop i (x1087)) price_1097 (fun s x => F__law_price_b8  s x)) K1095 EE) ?_ ?_ ?_ ?_⟩
            · exact ⟨(price_1074), _, _, _, _, rfl, (Same.refl _), S1084, hw⟩
            · intro i σ H1101 _ hw
              obtain ⟨price_1097, u1098, u1099, u1100, G1103, rfl, eG1104, S1102, hw⟩ := hw
              exact (SqL.of (S1102.bM _ _ h1090))
            · intro i x σ H1105 hj hw
              obtain ⟨price_1097, u1098, u1099, u1100, G1107, rfl, eG1108, S1106, hw⟩ := hw
              obtain ⟨x1109, hx, rfl⟩ := map_get hj
              have hw := cW_forS hx hw
              have hw : cW (F__law_price_b8  (price_1097) (x1109)) _ EE := hw
              unfold F__law_price_b8 at hw
              obtain ⟨K1111, hK1112, hw⟩ := cW_name hw
              refine ⟨_, rfl, _, rfl, ?_⟩
              have hw := cW_bnd hw
              refine ⟨fun σ H' => ∃ (price_1117 : Int) (G' : Hp), σ = [some (v_block), some (V.int price_1117), some (V.ref a1064), some (V.ref a1089), some (V.int (x1109)), some (V.int ((if x1109 < 0 then -x1109 else x1109))), u1100] ∧ Same G1107 G' ∧ Sep [] H G G' H' [] ∧ cW (F__law_price_k9 ((if x1109 < 0 then -x1109 else x1109)) price_1117) K1111 EE, ?_, ?_⟩
              · obtain ⟨K1118, hK1119, hw⟩ := cW_push hw
                refine ⟨_, rfl, _, _, rfl, rfl, _, rfl, ?_⟩
                refine iteD (fun c1120 => ?_) (fun c1120 => ?_)
                · have hw := cW_pos c1120 hw
                  refine ⟨_, rfl, _, _, rfl, rfl, ?_⟩
                  have hw := cW_bnd hw
                  have hw := cW_ok hw
                  have hw := hK1119 _ hw
                  exact ⟨((price_1097 + 1)), _, rfl, (Same.refl _), S1106, hw⟩
                · have hw := cW_neg c1120 hw
                  have hw := cW_ok hw
                  have hw := hK1119 _ hw
                  exact ⟨(price_1097), _, rfl, (Same.refl _), S1106, hw⟩
              · intro σ H1122 hw
                obtain ⟨price_1117, G1124, rfl, eG1125, S1123, hw⟩ := hw
                unfold F__law_price_k9 at hw
                obtain ⟨K1127, hK1128, hw⟩ := cW_push hw
                refine ⟨_, rfl, (by decide), (by decide), for_range (lo := 0) (n := Int.toNat (30)) (fun i σ H' => ∃ (price_1129 : Int) (u1130 : Option V) (G' : Hp), σ = [some (v_block), some (V.int price_1129), some (V.ref a1064), some (V.ref a1089), some (V.int (x1109)), some (V.int ((if x1109 < 0 then -x1109 else x1109))), u1130] ∧ Same G1124 G' ∧ Sep [] H G G' H' [] ∧ cW (forS (List.drop i (rng (0) (Int.toNat (30)))) price_1129 (fun s x => F__law_price_b10 ((if x1109 < 0 then -x1109 else x1109)) s x)) K1127 EE) ?_ ?_ ?_⟩
                · exact ⟨(price_1117), _, _, rfl, (Same.refl _), S1123, hw⟩
                · intro i σ H1131 hi hw
                  obtain ⟨price_1129, u1130, G1133, rfl, eG1134, S1132, hw⟩ := hw
                  have hw := cW_forS (rng_get hi) hw
                  generalize (0 + (i : Int)) = x1135 at hw ⊢
                  have hw : cW (F__law_price_b10 ((if x1109 < 0 then -x1109 else x1109)) (price_1129) (x1135)) _ EE := hw
                  unfold F__law_price_b10 at hw
                  obtain ⟨K1137, hK1138, hw⟩ := cW_name hw
                  obtain ⟨g1140, hw⟩ := cW_grd hw
                  refine ⟨_, rfl, _, rfl, _, _, rfl, rfl, (shl_side g1140.1 g1140.2.1 g1140.2.2.1 g1140.2.2.2), _, _, rfl, rfl, _, rfl, ?_⟩
                  refine iteD (fun c1141 => ?_) (fun c1141 => ?_)
                  · have hw := cW_pos c1141 hw
                    refine ⟨_, rfl, _, _, rfl, rfl, ?_⟩
                    have hw := cW_bnd hw
                    have hw := cW_ok hw
                    have hw := hK1138 _ hw
                    exact ⟨((price_1129 + 2)), _, _, rfl, eG1134, S1132, hw⟩
                  · have hw := cW_neg c1141 hw
                    have hw := cW_ok hw
                    have hw := hK1138 _ hw
                    exact ⟨(price_1129), _, _, rfl, eG1134, S1132, hw⟩
                · intro σ H1143 hw
                  obtain ⟨price_1129, u1130, G1145, rfl, eG1146, S1144, hw⟩ := hw
                  have hw := hK1128 _ (cW_forS0 (rng_len _ _).symm hw)
                  have hw : cW (F__law_price_r10  (price_1129)) _ EE := hw
                  unfold F__law_price_r10 at hw
                  have hw := cW_ok hw
                  have hw := hK1112 _ hw
                  exact ⟨(price_1129), _, _, _, _, rfl, (Same.trans (Same.trans eG1108 eG1125) eG1146), S1144, hw⟩
            · intro σ H1148 hw
              obtain ⟨price_1097, u1098, u1099, u1100, G1150, rfl, eG1151, S1149, hw⟩ := hw
              have hw := hK1096 _ (cW_forS0 (by rw [List.length_map]) hw)
              have hw : cW (F__law_price_r8  (price_1097)) _ EE := hw
              unfold F__law_price_r8 at hw
              have hw := cW_ok hw
              have hw := hK1093 _ hw
              exact ⟨(price_1097), _, _, _, _, _, rfl, (Same.trans eG1086 eG1151), S1149, hw⟩
          · intro σ H1153 hw
            obtain ⟨price_1074, u1075, u1076, u1077, u1078, G1155, rfl, eG1156, S1154, hw⟩ := hw
            have hw := hK1073 _ (cW_forS0 (by rw [d1067.len, List.length_map]) hw)
            have hw : cW (F__law_price_r7  (price_1074)) _ EE := hw
            unfold F__law_price_r7 at hw
            have hw := cW_ok hw
            have hw := hK1070 _ hw
            exact ⟨(price_1074), _, _, _, _, _, _, rfl, (Same.trans eG1061 eG1156), S1154, hw⟩
        · intro σ H1158 hw
          obtain ⟨price_1048, u1049, u1050, u1051, u1052, u1053, G1160, rfl, eG1161, S1159, hw⟩ := hw
          have hw := hK1047 _ (cW_forS0 (by rw [d1045.len, List.length_map]) hw)
          have hw : cW (F__law_price_r6  (price_1048)) _ EE := hw
          unfold F__law_price_r6 at hw
          refine ⟨_, rfl, ?_⟩
          have hw := cW_ok hw
          exact hK0 _ hw _ S1159.b0

abbrev N__law_near : List Str := ["x", "y", "due", "step"]
theorem sc__law_near : FnScope N__law_near ["x", "y"] (defScope s__law_near) := ⟨rfl, rfl, rfl, by decide +kernel, rfl, by decide +kernel, by decide +kernel⟩
theorem ok__law_near (D : DefX K mg "_law_near" s__law_near ["x", "y"] pats__law_near) (T : Txt w K mg AD)  : CalX P w K mg base 1 "_law_near" (sp__law_near K AD) pats__law_near := by
  refine D.ok sc__law_near (fun vs H Q E h => ?_) (fun f cdv A_ outer s H vs Q E hr h => ?_)
  · obtain ⟨G, x', y', rfl, _⟩ := h
    rfl
  · obtain ⟨G, x', y', rfl, sG, hw⟩ := h
    refine ⟨_, (pss_cons (ps_set (i := 2) sc__law_near.nd rfl (Or.inl rfl) (pe_lst pa_nil))
      (pss_cons (ps_for (passes_of rfl) rfl (pi_listK (K := K) (pe_lst (pa_cons (pe_tup (pa_cons pe_int (pa_cons pe_int pa_nil))) (pa_cons (pe_tup (pa_cons (pe_un un_neg pe_int) (pa_cons pe_int pa_nil))) (pa_cons (pe_tup (pa_cons pe_int (pa_cons pe_int pa_nil))) (pa_cons (pe_tup (pa_cons pe_int (pa_cons (pe_un un_neg pe_int) pa_nil))) (pa_cons (pe_tup (pa_cons pe_int (pa_cons pe_int pa_nil))) pa_nil))))))) (pg_name (i := 3) sc__law_near.nd rfl (Or.inl rfl)) (pss_one (ps_expr (pe_bm PySem.F.plainAttrs_list PySem.F.slot_list_append PySem.F.type_list_append mt_append (pv 2) (pa_cons (pe_tup (pa_cons (pe_callB (call_max2 rfl) (by rfl) T.b_max (by decide +kernel) (pa_cons (pe_un un_neg pe_int) (pa_cons (pe_callB (call_min2 rfl) (by rfl) T.b_min (by decide +kernel) (pa_cons pe_int (pa_cons (pe_op op_add (pv 0) (pe_ix (ix_tupK (K := K)) (pv 3) pe_int (fun _ _ => rfl))) pa_nil))) pa_nil))) (pa_cons (pe_callB (call_max2 rfl) (by rfl) T.b_max (by decide +kernel) (pa_cons (pe_un un_neg pe_int) (pa_cons (pe_callB (call_min2 rfl) (by rfl) T.b_min (by decide +kernel) (pa_cons pe_int (pa_cons (pe_op op_add (pv 1) (pe_ix (ix_tupK (K := K)) (pv 3) pe_int (fun _ _ => rfl))) pa_nil))) pa_nil))) pa_nil))) pa_nil)))))
      (pss_one (ps_ret (pv 2))))), ?_⟩
    obtain ⟨KK, EE, hK0, hE, hw⟩ := cW_gen hw
    have S0 := Sep.startG sG
    unfold F__law_near at hw
    refine ⟨(by show 0 ≤ sizeLine; decide), fun p1163 n1164 => ?_⟩
    generalize g1165 : upd H p1163 _ = H1166
    obtain ⟨e1167, h1168⟩ := gen_new n1164 g1165
    have h1169 : H1166 p1163 = some (.lst ([])) := h1168
    have fr1170 := S0.free n1164
    have S1171 := S0.new n1164 e1167 h1169 fr1170
    have d1172 : RpAll G ([]) ((([] : (List (Int × Int))) : (List (Int × Int))).map (encT2 PyData.int PyData.int)) := RpAll.nil
    refine ⟨(by show 2 ≤ sizeLine; decide), fun p1173 n1174 => ?_⟩
    generalize g1175 : upd H1166 p1173 _ = H1176
    obtain ⟨e1177, h1178⟩ := gen_new n1174 g1175
    have h1179 : H1176 p1173 = some (.tup [V.int (0), V.int (0)]) := h1178
    have fr1180 := S1171.free n1174
    obtain ⟨G1182, eG1183, hg1184, S1181⟩ := S1171.grow n1174 e1177 h1179 fr1180
    refine ⟨_, rfl, (by show 2 ≤ sizeLine; decide), fun p1185 n1186 => ?_⟩
    generalize g1187 : upd H1176 p1185 _ = H1188
    obtain ⟨e1189, h1190⟩ := gen_new n1186 g1187
    have h1191 : H1188 p1185 = some (.tup [V.int ((-4)), V.int (0)]) := h1190
    have fr1192 := S1181.free n1186
    obtain ⟨G1194, eG1195, hg1196, S1193⟩ := S1181.grow n1186 e1189 h1191 fr1192
    refine ⟨(by show 2 ≤ sizeLine; decide), fun p1197 n1198 => ?_⟩
    generalize g1199 : upd H1188 p1197 _ = H1200
    obtain ⟨e1201, h1202⟩ := gen_new n1198 g1199
    have h1203 : H1200 p1197 = some (.tup [V.int (4), V.int (0)]) := h1202
    have fr1204 := S1193.free n1198
    obtain ⟨G1206, eG1207, hg1208, S1205⟩ := S1193.grow n1198 e1201 h1203 fr1204
    refine ⟨_, rfl, (by show 2 ≤ sizeLine; decide), fun p1209 n1210 => ?_⟩
    generalize g1211 : upd H1200 p1209 _ = H1212
    obtain ⟨e1213, h1214⟩ := gen_new n1210 g1211
    have h1215 : H1212 p1209 = some (.tup [V.int (0), V.int ((-4))]) := h1214
    have fr1216 := S1205.free n1210
    obtain ⟨G1218, eG1219, hg1220, S1217⟩ := S1205.grow n1210 e1213 h1215 fr1216
    refine ⟨(by show 2 ≤ sizeLine; decide), fun p1221 n1222 => ?_⟩
    generalize g1223 : upd H1212 p1221 _ = H1224
    obtain ⟨e1225, h1226⟩ := gen_new n1222 g1223
    have h1227 : H1224 p1221 = some (.tup [V.int (0), V.int (4)]) := h1226
    have fr1228 := S1217.free n1222
    obtain ⟨G1230, eG1231, hg1232, S1229⟩ := S1217.grow n1222 e1225 h1227 fr1228
    refine ⟨(by show 5 ≤ sizeLine; decide), fun p1233 n1234 => ?_⟩
    generalize g1235 : upd H1224 p1233 _ = H1236
    obtain ⟨e1237, h1238⟩ := gen_new n1234 g1235
    have h1239 : H1236 p1233 = some (.lst ([V.ref p1173, V.ref p1185, V.ref p1197, V.ref p1209, V.ref p1221])) := h1238
    have fr1240 := S1229.free n1234
    have S1241 := S1229.new n1234 e1237 h1239 fr1240
    have d1242 : RpAll G1230 ([V.ref p1173, V.ref p1185, V.ref p1197, V.ref p1209, V.ref p1221]) (([(0, 0), ((-4), 0), (4, 0), (0, (-4)), (0, 4)] : (List (Int × Int))).map (encT2 PyData.int PyData.int)) := (RpAll.cons (rp_mk2 (eG1231 _ _ (eG1219 _ _ (eG1207 _ _ (eG1195 _ _ hg1184)))) (.int _) (.int _)) (RpAll.cons (rp_mk2 (eG1231 _ _ (eG1219 _ _ (eG1207 _ _ hg1196))) (.int _) (.int _)) (RpAll.cons (rp_mk2 (eG1231 _ _ (eG1219 _ _ hg1208)) (.int _) (.int _)) (RpAll.cons (rp_mk2 (eG1231 _ _ hg1220) (.int _) (.int _)) (RpAll.cons (rp_mk2 hg1232 (.int _) (.int _)) RpAll.nil)))))
    obtain ⟨K1245, hK1246, hw⟩ := cW_push hw
    refine ⟨_, rfl, ⟨_, (SqL.of h1239)⟩, for_list (K := K) (a := p1233) (xs := [V.ref p1173, V.ref p1185, V.ref p1197, V.ref p1209, V.ref p1221]) (fun i σ H' => ∃ (due_1247 : (List (Int × Int))) (vs1248 : List V) (u1249 : Option V) (G' : Hp), σ = [some (V.int (x')), some (V.int (y')), some (V.ref p1163), u1249] ∧ Same G1230 G' ∧ Sep [] H G G' H' [p1163, p1233] ∧ H' p1163 = some (.lst (vs1248)) ∧ H' p1233 = some (.lst ([V.ref p1173, V.ref p1185, V.ref p1197, V.ref p1209, V.ref p1221])) ∧ RpAll G' (vs1248) ((due_1247 : (List (Int × Int))).map (encT2 PyData.int PyData.int)) ∧ cW (forS (List.drop i ([(0, 0), ((-4), 0), (4, 0), (0, (-4)), (0, 4)])) due_1247 (fun s x => F__law_near_b1 (x') (y') s x)) K1245 EE) ?_ ?_ ?_ ?_⟩
    · have h1250 := (e1237 _ _ (e1225 _ _ (e1213 _ _ (e1201 _ _ (e1189 _ _ (e1177 _ _ h1169))))))
      exact ⟨(([] : (List (Int × Int)))), _, _, _, rfl, (Same.refl _), (S1241.sub (all_cons (.tail _ (.head _)) (all_cons (.head _) all_nil))), h1250, h1239, (RpAll.mono eG1231 (RpAll.mono eG1219 (RpAll.mono eG1207 (RpAll.mono eG1195 (RpAll.mono eG1183 d1172))))), hw⟩
    · intro i σ H1251 _ hw
      obtain ⟨due_1247, vs1248, u1249, G1256, rfl, eG1257, S1252, h1253, h1254, d1255, hw⟩ := hw
      exact (SqL.of h1254)
    · intro i x σ H1258 hj hw
      obtain ⟨due_1247, vs1248, u1249, G1263, rfl, eG1264, S1259, h1260, h1261, d1262, hw⟩ := hw
      obtain ⟨x1265, hx, r1266⟩ := RpAll.get (RpAll.mono eG1264 d1242) hj
      obtain ⟨a1267, v1269, v1270, rfl, h1268, r1271, r1272⟩ := rp_tup2 r1266
      obtain rfl := rp_int r1271
      obtain rfl := rp_int r1272
      have hw := cW_forS hx hw
      have hw : cW (F__law_near_b1 (x') (y') (due_1247) (x1265)) _ EE := hw
      unfold F__law_near_b1 at hw
      obtain ⟨K1274, hK1275, hw⟩ := cW_name hw
      refine ⟨_, rfl, (.inl ⟨rfl, _, SqL.of h1260⟩), _, rfl, _, rfl, _, rfl, _, _, _, _, rfl, rfl, (SqT.of (S1259.sG _ _ h1268)), rfl, _, _, rfl, rfl, _, _, rfl, _, _, rfl, _, rfl, _, rfl, _, rfl, _, _, _, _, rfl, rfl, (SqT.of (S1259.sG _ _ h1268)), rfl, _, _, rfl, rfl, _, _, rfl, _, _, rfl, (by show 2 ≤ sizeLine; decide), fun p1277 n1278 => ?_⟩
      generalize g1279 : upd H1258 p1277 _ = H1280
      obtain ⟨e1281, h1282⟩ := gen_new n1278 g1279
      have h1283 : H1280 p1277 = some (.tup [V.int ((if (if (x' + x1265.1) < 1023 then (x' + x1265.1) else 1023) > (-1023) then (if (x' + x1265.1) < 1023 then (x' + x1265.1) else 1023) else (-1023))), V.int ((if (if (y' + x1265.2) < 1023 then (y' + x1265.2) else 1023) > (-1023) then (if (y' + x1265.2) < 1023 then (y' + x1265.2) else 1023) else (-1023)))]) := h1282
      have fr1284 := S1259.free n1278
      obtain ⟨G1286, eG1287, hg1288, S1285⟩ := S1259.grow n1278 e1281 h1283 fr1284
      obtain ⟨g1289, hw⟩ := cW_grd hw
      have h1290 := (e1281 _ _ h1260)
      refine ⟨_, _, _, rfl, rfl, h1290, (app_len (RpAll.mono eG1287 d1262) g1289), ?_⟩
      generalize g1291 : upd H1280 p1163 _ = H1292
      obtain ⟨x1293, h1294⟩ := gen_mut g1291
      have h1295 : H1292 p1163 = some (.lst (vs1248 ++ [V.ref p1277])) := h1294
      have S1296 := S1285.mut1 x1293 (.head _) h1295
      have d1297 : RpAll G1286 (vs1248 ++ [V.ref p1277]) (((due_1247) ++ [((if (if (x' + x1265.1) < 1023 then (x' + x1265.1) else 1023) > (-1023) then (if (x' + x1265.1) < 1023 then (x' + x1265.1) else 1023) else (-1023)), (if (if (y' + x1265.2) < 1023 then (y' + x1265.2) else 1023) > (-1023) then (if (y' + x1265.2) < 1023 then (y' + x1265.2) else 1023) else (-1023)))] : (List (Int × Int))).map (encT2 PyData.int PyData.int)) := app_map (RpAll.mono eG1287 d1262) (RpAll.one (rp_mk2 hg1288 (.int _) (.int _)))
      have hw := cW_bnd hw
      have hw := cW_ok hw
      have hw := hK1275 _ hw
      have h1299 := (x1293 _ _ (e1281 _ _ h1261) (ne_of_none (e1225 _ _ (e1213 _ _ (e1201 _ _ (e1189 _ _ (e1177 _ _ h1169))))) n1234).symm)
      exact ⟨((due_1247) ++ [((if (if (x' + x1265.1) < 1023 then (x' + x1265.1) else 1023) > (-1023) then (if (x' + x1265.1) < 1023 then (x' + x1265.1) else 1023) else (-1023)), (if (if (y' + x1265.2) < 1023 then (y' + x1265.2) else 1023) > (-1023) then (if (y' + x1265.2) < 1023 then (y' + x1265.2) else 1023) else (-1023)))]), _, _, _, rfl, (Same.trans eG1264 eG1287), S1296, h1295, h1299, d1297, hw⟩
    · intro σ H1300 hw
      obtain ⟨due_1247, vs1248, u1249, G1305, rfl, eG1306, S1301, h1302, h1303, d1304, hw⟩ := hw
      have hw := hK1246 _ (cW_forS0 (by rw [(RpAll.mono eG1306 d1242).len, List.length_map]) hw)
      have hw : cW (F__law_near_r1  (due_1247)) _ EE := hw
      unfold F__law_near_r1 at hw
      refine ⟨_, rfl, ?_⟩
      obtain ⟨G1308, eG1309, hg1310, S1311⟩ := Sep.freeze (O' := [p1233]) S1301 (.head _) h1302 fr1170 ((all_cons ⟨(.tail _ (.head _)), (ne_of_none (e1225 _ _ (e1213 _ _ (e1201 _ _ (e1189 _ _ (e1177 _ _ h1169))))) n1234).symm⟩ all_nil))
      have hw := cW_ok hw
      exact hK0 _ hw _ _ _ S1311.b0 S1311.g0 S1311.sG S1311.gn (rp_mk_list hg1310 (RpAll.mono eG1309 d1304))

abbrev N_law : List Str := ["script", "k", "cell", "block", "kept", "price", "x", "y", "near", "vector"]
theorem sc_law : FnScope N_law ["script"] (defScope s_law) := ⟨rfl, rfl, rfl, by decide +kernel, rfl, by decide +kernel, by decide +kernel⟩
theorem ok_law {f : Addr} {fd : FuncData} (F : FunD K "law" "law" (defArgs s_law) (defBody s_law) (defScope s_law) [] [] f fd) (T : Txt w K mg AD) (c__law_cell : CalX P w K mg base 1 "_law_cell" (sp__law_cell K AD) pats__law_cell) (c__law_block : CalX P w K mg base 2 "_law_block" (sp__law_block K AD) pats__law_block) (c_block_price : CalX P w K mg base 1 "block_price" (sp_block_price K AD) pats_block_price) (c__law_price : CalX P w K mg base 1 "_law_price" (sp__law_price K AD) pats__law_price) (c__law_is_integer : CalX P w K mg base 1 "_law_is_integer" (sp__law_is_integer K AD) pats__law_is_integer) (c_near_vectors : CalX P w K mg base 4 "near_vectors" (sp_near_vectors K AD) pats_near_vectors) (c__law_near : CalX P w K mg base 1 "_law_near" (sp__law_near K AD) pats__law_near) : FnG P w K mg base CX0 5 f fd ["script"] (sp_law K AD) := by
  refine FnG.bodyN F sc_law (fun vs H Q E h => ?_) (fun cdv A_ outer s H vs Q E hr h => ?_)
  · obtain ⟨a_script, script, rfl, _⟩ := h
    rfl
  · obtain ⟨a_script, script', rfl, q_script, hw, k⟩ := h
    refine ⟨_, (pss_cons (ps_for PassesOwn.never rfl (pi_range1 rfl T.b_range (pa_cons (pe_callB (call_min2 rfl) (by rfl) T.b_min (by decide +kernel) (pa_cons (pe_op op_add pe_int (pe_callB (call_lenLiK (K := K)) (by rfl) T.b_len (by decide +kernel) (pa_cons (pv 0) pa_nil))) (pa_cons pe_int pa_nil))) pa_nil)) (pg_name (i := 1) sc_law.nd rfl (Or.inl rfl)) (pss_cons (ps_set (i := 2) sc_law.nd rfl (Or.inl rfl) (pe_op op_add (vx_callX c__law_cell pat__law_cell_0 (.head _) hr (by decide) takes0 rfl (pa_cons (pv 0) (pa_cons (pv 1) pa_nil)) pk_nil) (pv 1)))
      (pss_cons (ps_set (i := 3) sc_law.nd rfl (Or.inl rfl) (vx_callX c__law_block pat__law_block_0 (.head _) hr (by decide) takes0 rfl (pa_cons (pv 2) pa_nil) pk_nil))
      (pss_cons (ps_set (i := 4) sc_law.nd rfl (Or.inl rfl) (pe_callB (call_reprD hr.gd hr.units) (by rfl) T.b_repr (by decide +kernel) (pa_cons (pv 3) pa_nil)))
      (pss_cons (ps_set (i := 5) sc_law.nd rfl (Or.inl rfl) (vx_callX c_block_price pat_block_price_0 (.head _) hr (by decide) takes0 rfl (pa_cons (pv 3) pa_nil) pk_nil))
      (pss_cons (ps_if (PW.pt (pw_or (pt_not (pt_val (vx_callX c__law_is_integer pat__law_is_integer_0 (.head _) hr (by decide) takes0 rfl (pa_cons (pv 5) pa_nil) pk_nil))) (pw_or (pt_cmp (pc_neI (pv 5) (vx_callX c__law_price pat__law_price_0 (.head _) hr (by decide) takes0 rfl (pa_cons (pv 3) pa_nil) pk_nil))) (pw_or1 (pt_cmpR op_ne (pe_callB (call_reprD hr.gd hr.units) (by rfl) T.b_repr (by decide +kernel) (pa_cons (pv 3) pa_nil)) (pv 4) (nomark _)))))) (pss_one (ps_ret pe_bl)) pss_nil)
      (pss_cons (ps_set (i := 6) sc_law.nd rfl (Or.inl rfl) (pe_op op_sub (pe_op op_mod (pe_op op_fdivW (pv 2) pe_int) pe_int) pe_int))
      (pss_cons (ps_set (i := 7) sc_law.nd rfl (Or.inl rfl) (pe_op op_sub (pe_op op_mod (pe_op op_fdivW (pv 2) pe_int) pe_int) pe_int))
      (C8.pss_cut (ps_if (pt_cmp (pc_eqI (pe_op op_mod (pe_op op_fdivW (pv 2) pe_int) pe_int) pe_int)) (pss_one (ps_set (i := 6) sc_law.nd rfl (Or.inl rfl) (pe_op op_sub pe_int (pe_op op_mod (pe_op op_fdivW (pv 2) pe_int) pe_int)))) pss_nil)
      (C8.pss_cut (ps_if (pt_cmp (pc_eqI (pe_op op_mod (pe_op op_fdivW (pv 2) pe_int) pe_int) pe_int)) (pss_one (ps_set (i := 7) sc_law.nd rfl (Or.inl rfl) (pe_op op_sub (pe_op op_mod (pe_op op_fdivW (pv 2) pe_int) pe_int) pe_int))) pss_nil)
      (pss_cons (ps_set (i := 8) sc_law.nd rfl (Or.inl rfl) (vx_callX c_near_vectors pat_near_vectors_0 (.head _) hr (by decide) takes0 rfl (pa_cons (pe_tup (pa_cons (pv 6) (pa_cons (pv 7) pa_nil))) pa_nil) pk_nil))
      (pss_cons (ps_if (PW.pt (pw_or (pt_not (pt_val (pe_callB call_isi (by rfl) T.b_isinstance (by decide +kernel) (pa_cons (pv 8) (pa_cons (pe_bltn (v := V.ty "list") (u := Value.type "list") (by rfl) T.b_list (by decide +kernel) rfl) pa_nil))))) (pw_or1 (pt_cmpR (op_neT (encOk_L (encOk_T2 encOk_int encOk_int)) hr.units) (pv 8) (vx_callX c__law_near pat__law_near_0 (.head _) hr (by decide) takes0 rfl (pa_cons (pv 6) (pa_cons (pv 7) pa_nil)) pk_nil) (nomark _))))) (pss_one (ps_ret pe_bl)) pss_nil)
      (pss_one (ps_for PassesOwn.never rfl (pi_listK (K := K) (pv 8)) (pg_name (i := 9) sc_law.nd rfl (Or.inl rfl)) (pss_one (ps_if (PW.pt (pw_or (pt_not (pt_val (pe_callB call_isi (by rfl) T.b_isinstance (by decide +kernel) (pa_cons (pv 9) (pa_cons (pe_bltn (v := V.ty "tuple") (u := Value.type "tuple") (by rfl) T.b_tuple (by decide +kernel) rfl) pa_nil))))) (pw_or (pt_not (pt_val (vx_callX c__law_is_integer pat__law_is_integer_0 (.head _) hr (by decide) takes0 rfl (pa_cons (pe_ix (ix_tupK (K := K)) (pv 9) pe_int (fun _ _ => rfl)) pa_nil) pk_nil))) (pw_or1 (pt_not (pt_val (vx_callX c__law_is_integer pat__law_is_integer_0 (.head _) hr (by decide) takes0 rfl (pa_cons (pe_ix (ix_tupK (K := K)) (pv 9) pe_int (fun _ _ => rfl)) pa_nil) pk_nil))))))) (pss_one (ps_ret pe_bl)) pss_nil))))))))))))))))
      (pss_one (ps_ret pe_bl))), ?_⟩
    obtain ⟨KK, EE, hK0, hE, hw⟩ := cW_gen hw
    have S0 := Sep.start0 H
    unfold F_law at hw
    obtain ⟨g1312, hw⟩ := cW_grd hw
    obtain ⟨K1314, hK1315, hw⟩ := cW_push hw
    refine ⟨_, rfl, _, _, rfl, (S0.b0.seq q_script), _, _, rfl, rfl, _, _, rfl, _, rfl, g1312.1, g1312.2, for_range (lo := 0) (n := Int.toNat ((if 8 < (1 + (((script') : (List Int)).length : Int)) then 8 else (1 + (((script') : (List Int)).length : Int))))) (fun i σ H' => ∃ (u1316 : Option V) (u1317 : Option V) (u1318 : Option V) (u1319 : Option V) (u1320 : Option V) (u1321 : Option V) (u1322 : Option V) (u1323 : Option V) (u1324 : Option V) (G' : Hp), σ = [some (V.ref a_script), u1316, u1317, u1318, u1319, u1320, u1321, u1322, u1323, u1324] ∧ Same H G' ∧ Sep [] H H G' H' [] ∧ cW (forR (List.drop i (rng (0) (Int.toNat ((if 8 < (1 + (((script') : (List Int)).length : Int)) then 8 else (1 + (((script') : (List Int)).length : Int))))))) () (fun s x => F_law_b1 (script')  x)) K1314 EE) ?_ ?_ ?_⟩
    · exact ⟨_, _, _, _, _, _, _, _, _, _, rfl, (Same.refl _), S0, hw⟩
    · intro i σ H1325 hi hw
      obtain ⟨u1316, u1317, u1318, u1319, u1320, u1321, u1322, u1323, u1324, G1327, rfl, eG1328, S1326, hw⟩ := hw
      have hw := cW_forR (rng_get hi) hw
      generalize (0 + (i : Int)) = x1329 at hw ⊢
      have hw : cW (F_law_b1 (script')  (x1329)) _ EE := hw
      unfold F_law_b1 at hw
      obtain ⟨K1330, hK1331, hw⟩ := cW_name hw
      refine ⟨_, rfl, _, rfl, rfl, rfl, G1327, _, _, _, rfl, S1326.sG, (S1326.b0.seq q_script), cW_call hw (fun v1333 hw => ?_) (fun e he => (hE e he).elim)⟩
      refine ⟨_, rfl, _, _, rfl, rfl, ?_⟩
      have hw := cW_bnd hw
      refine ⟨_, rfl, rfl, rfl, G1327, _, rfl, S1326.sG, cW_call hw (fun v1335 hw v1338 H1336 G1339 e1337 eG1340 sG1341 hn1342 r1343 => ?_) (fun e he => (hE e he).elim)⟩
      have S1344 := S1326.step e1337 eG1340 sG1341 hn1342
      obtain ⟨g1345, hw⟩ := cW_grd hw
      obtain ⟨a1346, e1347⟩ := rp_ref g1345.1 (Rp.mono S1344.sG r1343)
      refine ⟨_, rfl, _, v1335, (congrArg (fun z => [z]) e1347), (e1347 ▸ (Rp.mono S1344.sG r1343)), g1345.2, _, rfl, rfl, rfl, G1339, _, v1335, rfl, S1344.sG, (Rp.hide_nil (Rp.mono S1344.sG r1343)), cW_call hw (fun v1348 hw H1349 e1350 => ?_) (fun e he => (hE e he).elim)⟩
      have S1351 := S1344.same e1350
      refine ⟨_, rfl, rfl, rfl, G1339, _, rfl, S1351.sG, cW_call hw (fun v1352 hw => ?_) (fun e he => (hE e he).elim)⟩
      refine ⟨_, rfl, ?_⟩
      refine iteBN (fun c1353 => ?_) (fun c1353 => ?_)
      · have hw := cW_negB c1353 hw
        refine iteT ?_
        have hw := cW_ok hw
        have hw := hK1331 (.rt _) hw
        have hw := hK1315 (.rt _) hw
        have hw := cW_ok hw
        exact eq_bl (k _) (hK0 _ hw).symm
      · have hw := cW_pos c1353 hw
        refine ⟨_, rfl, _, rfl, rfl, rfl, G1339, _, v1335, rfl, S1351.sG, (Rp.hide_nil (Rp.mono S1351.sG r1343)), cW_call hw (fun v1354 hw H1355 e1356 => ?_) (fun e he => (hE e he).elim)⟩
        have S1357 := S1351.same e1356
        refine ⟨_, _, rfl, rfl, _, rfl, ?_⟩
        refine iteN (fun c1358 => ?_) (fun c1358 => ?_)
        · have hw := cW_neg c1358 hw
          refine iteT ?_
          have hw := cW_ok hw
          have hw := hK1331 (.rt _) hw
          have hw := hK1315 (.rt _) hw
          have hw := cW_ok hw
          exact eq_bl (k _) (hK0 _ hw).symm
        · have hw := cW_pos c1358 hw
          obtain ⟨g1359, hw⟩ := cW_grd hw
          obtain ⟨a1360, e1361⟩ := rp_ref g1359.1 (Rp.mono S1357.sG r1343)
          refine ⟨_, rfl, _, v1335, (congrArg (fun z => [z]) e1361), (e1361 ▸ (Rp.mono S1357.sG r1343)), g1359.2, _, rfl, rfl, _, rfl, ?_⟩
          refine iteN (fun c1362 => ?_) (fun c1362 => ?_)
          · have hw := cW_neg c1362 hw
            have hw := cW_ok hw
            have hw := hK1331 (.rt _) hw
            have hw := hK1315 (.rt _) hw
            have hw := cW_ok hw
            exact eq_bl (k _) (hK0 _ hw).symm
          · have hw := cW_pos c1362 hw
            refine ⟨_, rfl, _, _, rfl, rfl, (divW_lit (by decide) (by decide)), _, _, rfl, rfl, (show (0 : Int) < 2047 by decide), _, _, rfl, rfl, ?_⟩
            have hw := cW_bnd hw
            refine ⟨_, rfl, _, _, rfl, rfl, (divW_lit (by decide) (by decide)), _, _, rfl, rfl, (show (0 : Int) < 2047 by decide), _, _, rfl, rfl, ?_⟩
            have hw := cW_bnd hw
            refine ⟨fun σ H' => ∃ (x_1368 : Int) (G' : Hp), σ = [some (V.ref a_script), some (V.int (x1329)), some (V.int ((v1333 + x1329))), some (v1338), some (V.str ((PyData.shown (v1335)))), some (V.int (v1348)), some (V.int x_1368), some (V.int (((((v1333 + x1329) / 7) % 2047) - 1023))), u1323, u1324] ∧ Same G1339 G' ∧ Sep [] H H G' H' [] ∧ cW (F_law_k2 ((v1333 + x1329)) (((((v1333 + x1329) / 7) % 2047) - 1023)) x_1368) K1330 EE, ?_, ?_⟩
            · obtain ⟨K1369, hK1370, hw⟩ := cW_push hw
              refine ⟨_, rfl, _, _, rfl, rfl, (divW_lit (by decide) (by decide)), _, _, rfl, rfl, (show (0 : Int) < 4 by decide), _, _, rfl, rfl, _, rfl, ?_⟩
              refine iteD (fun c1371 => ?_) (fun c1371 => ?_)
              · have hw := cW_pos c1371 hw
                refine ⟨_, rfl, _, _, rfl, rfl, (divW_lit (by decide) (by decide)), _, _, rfl, rfl, (show (0 : Int) < 6 by decide), _, _, rfl, rfl, ?_⟩
                have hw := cW_bnd hw
                have hw := cW_ok hw
                have hw := hK1370 _ hw
                exact ⟨((1023 - (((v1333 + x1329) / 11) % 6))), _, rfl, (Same.refl _), S1357, hw⟩
              · have hw := cW_neg c1371 hw
                have hw := cW_ok hw
                have hw := hK1370 _ hw
                exact ⟨(((((v1333 + x1329) / 5) % 2047) - 1023)), _, rfl, (Same.refl _), S1357, hw⟩
            · intro σ H1373 hw
              obtain ⟨x_1368, G1375, rfl, eG1376, S1374, hw⟩ := hw
              unfold F_law_k2 at hw
              refine ⟨fun σ H' => ∃ (y_1379 : Int) (G' : Hp), σ = [some (V.ref a_script), some (V.int (x1329)), some (V.int ((v1333 + x1329))), some (v1338), some (V.str ((PyData.shown (v1335)))), some (V.int (v1348)), some (V.int (x_1368)), some (V.int y_1379), u1323, u1324] ∧ Same G1375 G' ∧ Sep [] H H G' H' [] ∧ cW (F_law_k3 (x_1368) y_1379) K1330 EE, ?_, ?_⟩
              · obtain ⟨K1380, hK1381, hw⟩ := cW_push hw
                refine ⟨_, rfl, _, _, rfl, rfl, (divW_lit (by decide) (by decide)), _, _, rfl, rfl, (show (0 : Int) < 4 by decide), _, _, rfl, rfl, _, rfl, ?_⟩
                refine iteD (fun c1382 => ?_) (fun c1382 => ?_)
                · have hw := cW_pos c1382 hw
                  refine ⟨_, rfl, _, _, rfl, rfl, (divW_lit (by decide) (by decide)), _, _, rfl, rfl, (show (0 : Int) < 6 by decide), _, _, rfl, rfl, ?_⟩
                  have hw := cW_bnd hw
                  have hw := cW_ok hw
                  have hw := hK1381 _ hw
                  exact ⟨(((((v1333 + x1329) / 11) % 6) - 1023)), _, rfl, (Same.refl _), S1374, hw⟩
                · have hw := cW_neg c1382 hw
                  have hw := cW_ok hw
                  have hw := hK1381 _ hw
                  exact ⟨(((((v1333 + x1329) / 7) % 2047) - 1023)), _, rfl, (Same.refl _), S1374, hw⟩
              · intro σ H1384 hw
                obtain ⟨y_1379, G1386, rfl, eG1387, S1385, hw⟩ := hw
                unfold F_law_k3 at hw
                refine ⟨_, rfl, _, rfl, (by show 2 ≤ sizeLine; decide), fun p1388 n1389 => ?_⟩
                generalize g1390 : upd H1384 p1388 _ = H1391
                obtain ⟨e1392, h1393⟩ := gen_new n1389 g1390
                have h1394 : H1391 p1388 = some (.tup [V.int (x_1368), V.int (y_1379)]) := h1393
                have fr1395 := S1385.free n1389
                obtain ⟨G1397, eG1398, hg1399, S1396⟩ := S1385.grow n1389 e1392 h1394 fr1395
                refine ⟨rfl, rfl, G1397, _, _, rfl, S1396.sG, (Rp.hide_nil (rp_mk2 (S1396.sG _ _ hg1399) (.int _) (.int _))), cW_call hw (fun v1400 hw v1403 H1401 G1404 e1402 eG1405 sG1406 hn1407 r1408 => ?_) (fun e he => (hE e he).elim)⟩
                have S1409 := S1396.step e1402 eG1405 sG1406 hn1407
                obtain ⟨a1410, vs1411, rfl, h1412, d1413⟩ := rp_list r1408
                refine ⟨_, rfl, _, _, _, _, _, rfl, (.ty _), (.base (.lst (S1409.sG _ _ h1412))), rfl, _, rfl, ?_⟩
                refine iteF ?_
                refine ⟨_, rfl, _, rfl, _, rfl, rfl, rfl, G1404, _, _, rfl, S1409.sG, cW_call hw (fun v1414 hw v1417 H1415 G1418 e1416 eG1419 sG1420 hn1421 r1422 => ?_) (fun e he => (hE e he).elim)⟩
                have S1423 := S1409.step e1416 eG1419 sG1420 hn1421
                obtain ⟨a1424, vs1425, rfl, h1426, d1427⟩ := rp_list r1422
                refine ⟨_, _, (rp_mk_list (S1423.sG _ _ (eG1419 _ _ h1412)) (RpAll.mono S1423.sG (RpAll.mono eG1419 d1413))), (rp_mk_list (S1423.sG _ _ h1426) (RpAll.mono S1423.sG d1427)), _, rfl, ?_⟩
                refine iteN (fun c1428 => ?_) (fun c1428 => ?_)
                · have hw := cW_neg c1428 hw
                  have hw := cW_ok hw
                  have hw := hK1331 (.rt _) hw
                  have hw := hK1315 (.rt _) hw
                  have hw := cW_ok hw
                  exact eq_bl (k _) (hK0 _ hw).symm
                · have hw := cW_pos c1428 hw
                  obtain ⟨K1429, hK1430, hw⟩ := cW_push hw
                  refine ⟨_, rfl, _, rfl, ⟨_, (SqL.of (S1423.sG _ _ (eG1419 _ _ h1412)))⟩, for_list (K := K) (a := a1410) (xs := vs1411) (fun i σ H' => ∃ (u1431 : Option V) (G' : Hp), σ = [some (V.ref a_script), some (V.int (x1329)), some (V.int ((v1333 + x1329))), some (v1338), some (V.str ((PyData.shown (v1335)))), some (V.int (v1348)), some (V.int (x_1368)), some (V.int (y_1379)), some (V.ref a1410), u1431] ∧ Same G1418 G' ∧ Sep [] H H G' H' [] ∧ cW (forR (List.drop i (v1400)) () (fun s x => F_law_b4   x)) K1429 EE) ?_ ?_ ?_ ?_⟩
                  · exact ⟨_, _, rfl, (Same.refl _), S1423, hw⟩
                  · intro i σ H1432 _ hw
                    obtain ⟨u1431, G1434, rfl, eG1435, S1433, hw⟩ := hw
                    exact (SqL.of (S1433.sG _ _ (eG1435 _ _ (eG1419 _ _ h1412))))
                  · intro i x σ H1436 hj hw
                    obtain ⟨u1431, G1438, rfl, eG1439, S1437, hw⟩ := hw
                    obtain ⟨x1440, hx, r1441⟩ := RpAll.get (RpAll.mono eG1439 (RpAll.mono eG1419 d1413)) hj
                    obtain ⟨a1442, v1444, v1445, rfl, h1443, r1446, r1447⟩ := rp_tup2 r1441
                    obtain rfl := rp_int r1446
                    obtain rfl := rp_int r1447
                    have hw := cW_forR hx hw
                    have hw : cW (F_law_b4   (x1440)) _ EE := hw
                    unfold F_law_b4 at hw
                    obtain ⟨K1448, hK1449, hw⟩ := cW_name hw
                    refine ⟨_, rfl, _, _, _, _, _, rfl, (.ty _), (.base (.tup (S1437.sG _ _ h1443))), rfl, _, rfl, ?_⟩
                    refine iteF ?_
                    refine ⟨_, rfl, _, _, _, _, rfl, rfl, (SqT.of (S1437.sG _ _ h1443)), rfl, rfl, rfl, G1438, _, rfl, S1437.sG, cW_call hw (fun v1451 hw => ?_) (fun e he => (hE e he).elim)⟩
                    refine ⟨_, rfl, ?_⟩
                    refine iteBN (fun c1452 => ?_) (fun c1452 => ?_)
                    · have hw := cW_negB c1452 hw
                      refine iteT ?_
                      have hw := cW_ok hw
                      have hw := hK1449 (.rt _) hw
                      have hw := hK1430 (.rt _) hw
                      have hw := cW_ok hw
                      have hw := hK1331 (.rt _) hw
                      have hw := hK1315 (.rt _) hw
                      have hw := cW_ok hw
                      exact eq_bl (k _) (hK0 _ hw).symm
                    · have hw := cW_pos c1452 hw
                      refine ⟨_, rfl, _, _, _, _, rfl, rfl, (SqT.of (S1437.sG _ _ h1443)), rfl, rfl, rfl, G1438, _, rfl, S1437.sG, cW_call hw (fun v1453 hw => ?_) (fun e he => (hE e he).elim)⟩
                      refine ⟨_, rfl, ?_⟩
                      refine iteBN (fun c1454 => ?_) (fun c1454 => ?_)
                      · have hw := cW_negB c1454 hw
                        have hw := cW_ok hw
                        have hw := hK1449 (.rt _) hw
                        have hw := hK1430 (.rt _) hw
                        have hw := cW_ok hw
                        have hw := hK1331 (.rt _) hw
                        have hw := hK1315 (.rt _) hw
                        have hw := cW_ok hw
                        exact eq_bl (k _) (hK0 _ hw).symm
                      · have hw := cW_pos c1454 hw
                        have hw := cW_ok hw
                        have hw := hK1449 _ hw
                        exact ⟨_, _, rfl, eG1439, S1437, hw⟩
                  · intro σ H1455 hw
                    obtain ⟨u1431, G1457, rfl, eG1458, S1456, hw⟩ := hw
                    have hw := cW_aftgo (hK1430 _ (cW_forR0 (by rw [(RpAll.mono eG1458 (RpAll.mono eG1419 d1413)).len, List.length_map]) hw))
                    have hw : cW (F_law_r4  ) _ EE := hw
                    unfold F_law_r4 at hw
                    have hw := cW_ok hw
                    have hw := hK1331 _ hw
                    exact ⟨_, _, _, _, _, _, _, _, _, _, rfl, (Same.trans (Same.trans (Same.trans (Same.trans (Same.trans (Same.trans (Same.trans eG1328 eG1340) eG1376) eG1387) eG1398) eG1405) eG1419) eG1458), S1456, hw⟩
    · intro σ H1459 hw
      obtain ⟨u1316, u1317, u1318, u1319, u1320, u1321, u1322, u1323, u1324, G1461, rfl, eG1462, S1460, hw⟩ := hw
      have hw := cW_aftgo (hK1315 _ (cW_forR0 (rng_len _ _).symm hw))
      have hw : cW (F_law_r1  ) _ EE := hw
      unfold F_law_r1 at hw
      have hw := cW_ok hw
      exact eq_bl (k _) (hK0 _ hw).symm
end
def spL (K : PySem.W.Frag) : Sp := fun vs H Q _ => ∃ (a_script : Addr) (script : List Int), vs = [.ref a_script] ∧ SqL K H a_script (script.map V.int) ∧ script.length ≤ 63 ∧ ∀ H', Q (.bl true) H'
theorem all_mk {l : PySem.W.OpenLaw} {w : World} {K : PySem.W.Frag} {h : Heap} {mg : Str → Option Value} {fa : Addr} (X : K.In h) (G : h.Ns mainGlobals mg) (hfa : mg "law" = some (.ref fa))
    {f0 f1 f2 f3 f4 f5 f6 f7 f8 f9 f10 f11 f12 : Addr} {od0 an0 od1 an1 od2 an2 od3 an3 od4 an4 od5 an5 od6 an6 od7 an7 od8 an8 od9 an9 od10 an10 od11 an11 od12 an12 : Option Addr} {sl0 sl1 sl2 sl3 sl4 sl5 sl6 sl7 sl8 sl9 sl10 sl11 sl12 : Array (Option Value)} {oc0 kV0 dc0 pm0 cd0 ct0 oc1 kV1 dc1 pm1 cd1 ct1 oc2 kV2 dc2 pm2 cd2 ct2 oc3 kV3 dc3 pm3 cd3 ct3 oc4 kV4 dc4 pm4 cd4 ct4 oc5 kV5 dc5 pm5 cd5 ct5 oc6 kV6 dc6 pm6 cd6 ct6 oc7 kV7 dc7 pm7 cd7 ct7 oc8 kV8 dc8 pm8 cd8 ct8 oc9 kV9 dc9 pm9 cd9 ct9 oc10 kV10 dc10 pm10 cd10 ct10 oc11 kV11 dc11 pm11 cd11 ct11 oc12 kV12 dc12 pm12 cd12 ct12 : Value} {TG_PRICES : Addr} {tn2 : Nat} {tk2_0 tk2_1 tk2_2 tk2_3 tk2_4 tk2_5 : Tok} {th2_0 th2_1 th2_2 : Int} {tk7 : Tok}
    (a0 : PySem.W.nsIn K mainGlobals "_law_digits" = some (some (.ref f0))) (l0 : K.lookup f0 = some ⟨oc0, od0, .func (PySem.W.fnOf "_law_digits" "_law_digits" (defArgs s__law_digits) (defBody s__law_digits) (defScope s__law_digits) .none kV0 dc0 pm0 an0 cd0 ct0), sl0⟩) (c0 : PySem.W.codeIn K cd0 "_law_digits" = true) (k0 : PySem.W.keepIn K (.ref f0) = true) (a1 : PySem.W.nsIn K mainGlobals "_law_level" = some (some (.ref f1))) (l1 : K.lookup f1 = some ⟨oc1, od1, .func (PySem.W.fnOf "_law_level" "_law_level" (defArgs s__law_level) (defBody s__law_level) (defScope s__law_level) .none kV1 dc1 pm1 an1 cd1 ct1), sl1⟩) (c1 : PySem.W.codeIn K cd1 "_law_level" = true) (k1 : PySem.W.keepIn K (.ref f1) = true) (a2 : PySem.W.nsIn K mainGlobals "_law_block" = some (some (.ref f2))) (l2 : K.lookup f2 = some ⟨oc2, od2, .func (PySem.W.fnOf "_law_block" "_law_block" (defArgs s__law_block) (defBody s__law_block) (defScope s__law_block) .none kV2 dc2 pm2 an2 cd2 ct2), sl2⟩) (c2 : PySem.W.codeIn K cd2 "_law_block" = true) (k2 : PySem.W.keepIn K (.ref f2) = true) (a3 : PySem.W.nsIn K mainGlobals "block_price" = some (some (.ref f3))) (l3 : K.lookup f3 = some ⟨oc3, od3, .func (PySem.W.fnOf "block_price" "block_price" (defArgs s_block_price) (defBody s_block_price) (defScope s_block_price) .none kV3 dc3 pm3 an3 cd3 ct3), sl3⟩) (c3 : PySem.W.codeIn K cd3 "block_price" = true) (k3 : PySem.W.keepIn K (.ref f3) = true) (a4 : PySem.W.nsIn K mainGlobals "clip" = some (some (.ref f4))) (l4 : K.lookup f4 = some ⟨oc4, od4, .func (PySem.W.fnOf "clip" "clip" (defArgs s_clip) (defBody s_clip) (defScope s_clip) .none kV4 dc4 pm4 an4 cd4 ct4), sl4⟩) (c4 : PySem.W.codeIn K cd4 "clip" = true) (k4 : PySem.W.keepIn K (.ref f4) = true) (a5 : PySem.W.nsIn K mainGlobals "_clip_component" = some (some (.ref f5))) (l5 : K.lookup f5 = some ⟨oc5, od5, .func (PySem.W.fnOf "_clip_component" "_clip_component" (defArgs s__clip_component) (defBody s__clip_component) (defScope s__clip_component) .none kV5 dc5 pm5 an5 cd5 ct5), sl5⟩) (c5 : PySem.W.codeIn K cd5 "_clip_component" = true) (k5 : PySem.W.keepIn K (.ref f5) = true) (a6 : PySem.W.nsIn K mainGlobals "clip_vector" = some (some (.ref f6))) (l6 : K.lookup f6 = some ⟨oc6, od6, .func (PySem.W.fnOf "clip_vector" "clip_vector" (defArgs s_clip_vector) (defBody s_clip_vector) (defScope s_clip_vector) .none kV6 dc6 pm6 an6 cd6 ct6), sl6⟩) (c6 : PySem.W.codeIn K cd6 "clip_vector" = true) (k6 : PySem.W.keepIn K (.ref f6) = true) (a7 : PySem.W.nsIn K mainGlobals "near_vectors" = some (some (.ref f7))) (l7 : K.lookup f7 = some ⟨oc7, od7, .func (PySem.W.fnOf "near_vectors" "near_vectors" (defArgs s_near_vectors) (defBody s_near_vectors) (defScope s_near_vectors) .none kV7 dc7 pm7 an7 cd7 ct7), sl7⟩) (c7 : PySem.W.codeIn K cd7 "near_vectors" = true) (k7 : PySem.W.keepIn K (.ref f7) = true) (a8 : PySem.W.nsIn K mainGlobals "_law_cell" = some (some (.ref f8))) (l8 : K.lookup f8 = some ⟨oc8, od8, .func (PySem.W.fnOf "_law_cell" "_law_cell" (defArgs s__law_cell) (defBody s__law_cell) (defScope s__law_cell) .none kV8 dc8 pm8 an8 cd8 ct8), sl8⟩) (c8 : PySem.W.codeIn K cd8 "_law_cell" = true) (k8 : PySem.W.keepIn K (.ref f8) = true) (a9 : PySem.W.nsIn K mainGlobals "_law_is_integer" = some (some (.ref f9))) (l9 : K.lookup f9 = some ⟨oc9, od9, .func (PySem.W.fnOf "_law_is_integer" "_law_is_integer" (defArgs s__law_is_integer) (defBody s__law_is_integer) (defScope s__law_is_integer) .none kV9 dc9 pm9 an9 cd9 ct9), sl9⟩) (c9 : PySem.W.codeIn K cd9 "_law_is_integer" = true) (k9 : PySem.W.keepIn K (.ref f9) = true) (a10 : PySem.W.nsIn K mainGlobals "_law_price" = some (some (.ref f10))) (l10 : K.lookup f10 = some ⟨oc10, od10, .func (PySem.W.fnOf "_law_price" "_law_price" (defArgs s__law_price) (defBody s__law_price) (defScope s__law_price) .none kV10 dc10 pm10 an10 cd10 ct10), sl10⟩) (c10 : PySem.W.codeIn K cd10 "_law_price" = true) (k10 : PySem.W.keepIn K (.ref f10) = true) (a11 : PySem.W.nsIn K mainGlobals "_law_near" = some (some (.ref f11))) (l11 : K.lookup f11 = some ⟨oc11, od11, .func (PySem.W.fnOf "_law_near" "_law_near" (defArgs s__law_near) (defBody s__law_near) (defScope s__law_near) .none kV11 dc11 pm11 an11 cd11 ct11), sl11⟩) (c11 : PySem.W.codeIn K cd11 "_law_near" = true) (k11 : PySem.W.keepIn K (.ref f11) = true) (a12 : PySem.W.nsIn K mainGlobals "law" = some (some (.ref f12))) (l12 : K.lookup f12 = some ⟨oc12, od12, .func (PySem.W.fnOf "law" "law" (defArgs s_law) (defBody s_law) (defScope s_law) .none kV12 dc12 pm12 an12 cd12 ct12), sl12⟩) (c12 : PySem.W.codeIn K cd12 "law" = true) (k12 : PySem.W.keepIn K (.ref f12) = true)
    (z0 : PySem.W.nsIn K mainGlobals "int" = some none) (z1 : PySem.W.nsIn K mainGlobals "range" = some none) (z2 : PySem.W.nsIn K mainGlobals "PRICES" = some (some (.ref TG_PRICES))) (y2 : K.lookup TG_PRICES = some ⟨.type "dict", none, .dict #[⟨th2_0, .str "skip" tk2_0, .int 0 tk2_1⟩, ⟨th2_1, .str "intra" tk2_2, .int 1 tk2_3⟩, ⟨th2_2, .str "inter" tk2_4, .int 3 tk2_5⟩] tn2, #[]⟩) (u2_0 : th2_0 = PyData.keyHash w.params "skip") (u2_1 : th2_1 = PyData.keyHash w.params "intra") (u2_2 : th2_2 = PyData.keyHash w.params "inter") (z3 : PySem.W.nsIn K mainGlobals "sum" = some none) (z4 : PySem.W.nsIn K mainGlobals "abs" = some none) (z5 : PySem.W.nsIn K mainGlobals "min" = some none) (z6 : PySem.W.nsIn K mainGlobals "max" = some none) (z7 : PySem.W.nsIn K mainGlobals "GREATEST_COMPONENT" = some (some (.int 1023 tk7))) (z8 : PySem.W.nsIn K mainGlobals "len" = some none) (z9 : PySem.W.nsIn K mainGlobals "isinstance" = some none) (z10 : PySem.W.nsIn K mainGlobals "bool" = some none) (z11 : PySem.W.nsIn K mainGlobals "repr" = some none) (z12 : PySem.W.nsIn K mainGlobals "list" = some none) (z13 : PySem.W.nsIn K mainGlobals "tuple" = some none) :
    ∃ fd : FuncData, (∀ (s : Shared) (v : Value), BindsTo s fd ⟨[v], []⟩ [("script", v)]) ∧ ∀ base : Heap, K.In base → base.Ns mainGlobals mg → FnG l.prog w K mg base CX0 5 fa fd ["script"] (spL K) := by
  have e := hfa.symm.trans (PySem.W.mg_of X G a12)
  cases e
  have T : Txt w K mg ⟨TG_PRICES, fa⟩ := ⟨PySem.W.mg_none_of X G z0, PySem.W.mg_none_of X G z1, ⟨_, PySem.W.mg_of X G z2, rfl⟩, ⟨_, _, y2, (.cons u2_0 (.cons u2_1 (.cons u2_2 .nil)))⟩, PySem.W.mg_none_of X G z3, PySem.W.mg_none_of X G z4, PySem.W.mg_none_of X G z5, PySem.W.mg_none_of X G z6, ⟨_, PySem.W.mg_of X G z7, ⟨_, rfl⟩⟩, PySem.W.mg_none_of X G z8, PySem.W.mg_none_of X G z9, PySem.W.mg_none_of X G z10, PySem.W.mg_none_of X G z11, PySem.W.mg_none_of X G z12, PySem.W.mg_none_of X G z13⟩
  have F0 : FunD K "_law_digits" "_law_digits" (defArgs s__law_digits) (defBody s__law_digits) (defScope s__law_digits) [] [] f0 _ := ⟨⟨_, _, _, _, _, _, _, _, _, _, rfl, l0, c0, .inl ⟨rfl, rfl⟩, .inl rfl⟩, k0⟩
  have D_0 : DefX K mg "_law_digits" s__law_digits ["cell", "base", "most"] pats__law_digits := ⟨_, _, _, _, F0, PySem.W.mg_of X G a0, (all_consQ (Bnd.all fun us ws vs zs l1 l2 r rz => by
      obtain ⟨u0, u1, u2, rfl⟩ := len3 (r.length.symm.trans l1)
      obtain rfl := len0 (rz.length.symm.trans l2)
      cases r with | cons r0 r =>
        cases r with | cons r1 r =>
          cases r with | cons r2 r =>
            cases r
            cases rz
            exact ⟨[u0, u1, u2], rfl, (.cons r0 (.cons r1 (.cons r2 .nil)))⟩) all_nilQ)⟩
  have F1 : FunD K "_law_level" "_law_level" (defArgs s__law_level) (defBody s__law_level) (defScope s__law_level) [] [] f1 _ := ⟨⟨_, _, _, _, _, _, _, _, _, _, rfl, l1, c1, .inl ⟨rfl, rfl⟩, .inl rfl⟩, k1⟩
  have D_1 : DefX K mg "_law_level" s__law_level ["digit"] pats__law_level := ⟨_, _, _, _, F1, PySem.W.mg_of X G a1, (all_consQ (Bnd.all fun us ws vs zs l1 l2 r rz => by
      obtain ⟨u0, rfl⟩ := len1 (r.length.symm.trans l1)
      obtain rfl := len0 (rz.length.symm.trans l2)
      cases r with | cons r0 r =>
        cases r
        cases rz
        exact ⟨[u0], rfl, (.cons r0 .nil)⟩) all_nilQ)⟩
  have F2 : FunD K "_law_block" "_law_block" (defArgs s__law_block) (defBody s__law_block) (defScope s__law_block) [] [] f2 _ := ⟨⟨_, _, _, _, _, _, _, _, _, _, rfl, l2, c2, .inl ⟨rfl, rfl⟩, .inl rfl⟩, k2⟩
  have D_2 : DefX K mg "_law_block" s__law_block ["cell"] pats__law_block := ⟨_, _, _, _, F2, PySem.W.mg_of X G a2, (all_consQ (Bnd.all fun us ws vs zs l1 l2 r rz => by
      obtain ⟨u0, rfl⟩ := len1 (r.length.symm.trans l1)
      obtain rfl := len0 (rz.length.symm.trans l2)
      cases r with | cons r0 r =>
        cases r
        cases rz
        exact ⟨[u0], rfl, (.cons r0 .nil)⟩) all_nilQ)⟩
  have F3 : FunD K "block_price" "block_price" (defArgs s_block_price) (defBody s_block_price) (defScope s_block_price) [] [] f3 _ := ⟨⟨_, _, _, _, _, _, _, _, _, _, rfl, l3, c3, .inl ⟨rfl, rfl⟩, .inl rfl⟩, k3⟩
  have D_3 : DefX K mg "block_price" s_block_price ["block"] pats_block_price := ⟨_, _, _, _, F3, PySem.W.mg_of X G a3, (all_consQ (Bnd.all fun us ws vs zs l1 l2 r rz => by
      obtain ⟨u0, rfl⟩ := len1 (r.length.symm.trans l1)
      obtain rfl := len0 (rz.length.symm.trans l2)
      cases r with | cons r0 r =>
        cases r
        cases rz
        exact ⟨[u0], rfl, (.cons r0 .nil)⟩) all_nilQ)⟩
  have F4 : FunD K "clip" "clip" (defArgs s_clip) (defBody s_clip) (defScope s_clip) [] [] f4 _ := ⟨⟨_, _, _, _, _, _, _, _, _, _, rfl, l4, c4, .inl ⟨rfl, rfl⟩, .inl rfl⟩, k4⟩
  have D_4 : DefX K mg "clip" s_clip ["value", "low", "high"] pats_clip := ⟨_, _, _, _, F4, PySem.W.mg_of X G a4, (all_consQ (Bnd.all fun us ws vs zs l1 l2 r rz => by
      obtain ⟨u0, u1, u2, rfl⟩ := len3 (r.length.symm.trans l1)
      obtain rfl := len0 (rz.length.symm.trans l2)
      cases r with | cons r0 r =>
        cases r with | cons r1 r =>
          cases r with | cons r2 r =>
            cases r
            cases rz
            exact ⟨[u0, u1, u2], rfl, (.cons r0 (.cons r1 (.cons r2 .nil)))⟩) all_nilQ)⟩
  have F5 : FunD K "_clip_component" "_clip_component" (defArgs s__clip_component) (defBody s__clip_component) (defScope s__clip_component) [] [] f5 _ := ⟨⟨_, _, _, _, _, _, _, _, _, _, rfl, l5, c5, .inl ⟨rfl, rfl⟩, .inl rfl⟩, k5⟩
  have D_5 : DefX K mg "_clip_component" s__clip_component ["component"] pats__clip_component := ⟨_, _, _, _, F5, PySem.W.mg_of X G a5, (all_consQ (Bnd.all fun us ws vs zs l1 l2 r rz => by
      obtain ⟨u0, rfl⟩ := len1 (r.length.symm.trans l1)
      obtain rfl := len0 (rz.length.symm.trans l2)
      cases r with | cons r0 r =>
        cases r
        cases rz
        exact ⟨[u0], rfl, (.cons r0 .nil)⟩) all_nilQ)⟩
  have F6 : FunD K "clip_vector" "clip_vector" (defArgs s_clip_vector) (defBody s_clip_vector) (defScope s_clip_vector) [] [] f6 _ := ⟨⟨_, _, _, _, _, _, _, _, _, _, rfl, l6, c6, .inl ⟨rfl, rfl⟩, .inl rfl⟩, k6⟩
  have D_6 : DefX K mg "clip_vector" s_clip_vector ["x", "y"] pats_clip_vector := ⟨_, _, _, _, F6, PySem.W.mg_of X G a6, (all_consQ (Bnd.all fun us ws vs zs l1 l2 r rz => by
      obtain ⟨u0, u1, rfl⟩ := len2 (r.length.symm.trans l1)
      obtain rfl := len0 (rz.length.symm.trans l2)
      cases r with | cons r0 r =>
        cases r with | cons r1 r =>
          cases r
          cases rz
          exact ⟨[u0, u1], rfl, (.cons r0 (.cons r1 .nil))⟩) all_nilQ)⟩
  have F7 : FunD K "near_vectors" "near_vectors" (defArgs s_near_vectors) (defBody s_near_vectors) (defScope s_near_vectors) [] [] f7 _ := ⟨⟨_, _, _, _, _, _, _, _, _, _, rfl, l7, c7, .inl ⟨rfl, rfl⟩, .inl rfl⟩, k7⟩
  have D_7 : DefX K mg "near_vectors" s_near_vectors ["vector"] pats_near_vectors := ⟨_, _, _, _, F7, PySem.W.mg_of X G a7, (all_consQ (Bnd.all fun us ws vs zs l1 l2 r rz => by
      obtain ⟨u0, rfl⟩ := len1 (r.length.symm.trans l1)
      obtain rfl := len0 (rz.length.symm.trans l2)
      cases r with | cons r0 r =>
        cases r
        cases rz
        exact ⟨[u0], rfl, (.cons r0 .nil)⟩) all_nilQ)⟩
  have F8 : FunD K "_law_cell" "_law_cell" (defArgs s__law_cell) (defBody s__law_cell) (defScope s__law_cell) [] [] f8 _ := ⟨⟨_, _, _, _, _, _, _, _, _, _, rfl, l8, c8, .inl ⟨rfl, rfl⟩, .inl rfl⟩, k8⟩
  have D_8 : DefX K mg "_law_cell" s__law_cell ["script", "k"] pats__law_cell := ⟨_, _, _, _, F8, PySem.W.mg_of X G a8, (all_consQ (Bnd.all fun us ws vs zs l1 l2 r rz => by
      obtain ⟨u0, u1, rfl⟩ := len2 (r.length.symm.trans l1)
      obtain rfl := len0 (rz.length.symm.trans l2)
      cases r with | cons r0 r =>
        cases r with | cons r1 r =>
          cases r
          cases rz
          exact ⟨[u0, u1], rfl, (.cons r0 (.cons r1 .nil))⟩) all_nilQ)⟩
  have F9 : FunD K "_law_is_integer" "_law_is_integer" (defArgs s__law_is_integer) (defBody s__law_is_integer) (defScope s__law_is_integer) [] [] f9 _ := ⟨⟨_, _, _, _, _, _, _, _, _, _, rfl, l9, c9, .inl ⟨rfl, rfl⟩, .inl rfl⟩, k9⟩
  have D_9 : DefX K mg "_law_is_integer" s__law_is_integer ["actual"] pats__law_is_integer := ⟨_, _, _, _, F9, PySem.W.mg_of X G a9, (all_consQ (Bnd.all fun us ws vs zs l1 l2 r rz => by
      obtain ⟨u0, rfl⟩ := len1 (r.length.symm.trans l1)
      obtain rfl := len0 (rz.length.symm.trans l2)
      cases r with | cons r0 r =>
        cases r
        cases rz
        exact ⟨[u0], rfl, (.cons r0 .nil)⟩) all_nilQ)⟩
  have F10 : FunD K "_law_price" "_law_price" (defArgs s__law_price) (defBody s__law_price) (defScope s__law_price) [] [] f10 _ := ⟨⟨_, _, _, _, _, _, _, _, _, _, rfl, l10, c10, .inl ⟨rfl, rfl⟩, .inl rfl⟩, k10⟩
  have D_10 : DefX K mg "_law_price" s__law_price ["block"] pats__law_price := ⟨_, _, _, _, F10, PySem.W.mg_of X G a10, (all_consQ (Bnd.all fun us ws vs zs l1 l2 r rz => by
      obtain ⟨u0, rfl⟩ := len1 (r.length.symm.trans l1)
      obtain rfl := len0 (rz.length.symm.trans l2)
      cases r with | cons r0 r =>
        cases r
        cases rz
        exact ⟨[u0], rfl, (.cons r0 .nil)⟩) all_nilQ)⟩
  have F11 : FunD K "_law_near" "_law_near" (defArgs s__law_near) (defBody s__law_near) (defScope s__law_near) [] [] f11 _ := ⟨⟨_, _, _, _, _, _, _, _, _, _, rfl, l11, c11, .inl ⟨rfl, rfl⟩, .inl rfl⟩, k11⟩
  have D_11 : DefX K mg "_law_near" s__law_near ["x", "y"] pats__law_near := ⟨_, _, _, _, F11, PySem.W.mg_of X G a11, (all_consQ (Bnd.all fun us ws vs zs l1 l2 r rz => by
      obtain ⟨u0, u1, rfl⟩ := len2 (r.length.symm.trans l1)
      obtain rfl := len0 (rz.length.symm.trans l2)
      cases r with | cons r0 r =>
        cases r with | cons r1 r =>
          cases r
          cases rz
          exact ⟨[u0, u1], rfl, (.cons r0 (.cons r1 .nil))⟩) all_nilQ)⟩
  have F12 : FunD K "law" "law" (defArgs s_law) (defBody s_law) (defScope s_law) [] [] _ _ := ⟨⟨_, _, _, _, _, _, _, _, _, _, rfl, l12, c12, .inl ⟨rfl, rfl⟩, .inl rfl⟩, k12⟩
  have R__law_digits : ∀ base : Heap, CalX l.prog w K mg base 1 "_law_digits" (sp__law_digits K ⟨TG_PRICES, fa⟩) pats__law_digits := fun base => ok__law_digits D_0 T 
  have R__law_level : ∀ base : Heap, CalX l.prog w K mg base 1 "_law_level" (sp__law_level K ⟨TG_PRICES, fa⟩) pats__law_level := fun base => ok__law_level D_1 T 
  have R__law_block : ∀ base : Heap, CalX l.prog w K mg base 2 "_law_block" (sp__law_block K ⟨TG_PRICES, fa⟩) pats__law_block := fun base => ok__law_block D_2 T (R__law_digits base) (R__law_level base)
  have R_block_price : ∀ base : Heap, CalX l.prog w K mg base 1 "block_price" (sp_block_price K ⟨TG_PRICES, fa⟩) pats_block_price := fun base => ok_block_price D_3 T 
  have R_clip : ∀ base : Heap, CalX l.prog w K mg base 1 "clip" (sp_clip K ⟨TG_PRICES, fa⟩) pats_clip := fun base => ok_clip D_4 T 
  have R__clip_component : ∀ base : Heap, CalX l.prog w K mg base 2 "_clip_component" (sp__clip_component K ⟨TG_PRICES, fa⟩) pats__clip_component := fun base => ok__clip_component D_5 T (R_clip base)
  have R_clip_vector : ∀ base : Heap, CalX l.prog w K mg base 3 "clip_vector" (sp_clip_vector K ⟨TG_PRICES, fa⟩) pats_clip_vector := fun base => ok_clip_vector D_6 T (R__clip_component base)
  have R_near_vectors : ∀ base : Heap, CalX l.prog w K mg base 4 "near_vectors" (sp_near_vectors K ⟨TG_PRICES, fa⟩) pats_near_vectors := fun base => ok_near_vectors D_7 T (R_clip_vector base)
  have R__law_cell : ∀ base : Heap, CalX l.prog w K mg base 1 "_law_cell" (sp__law_cell K ⟨TG_PRICES, fa⟩) pats__law_cell := fun base => ok__law_cell D_8 T 
  have R__law_is_integer : ∀ base : Heap, CalX l.prog w K mg base 1 "_law_is_integer" (sp__law_is_integer K ⟨TG_PRICES, fa⟩) pats__law_is_integer := fun base => ok__law_is_integer D_9 T 
  have R__law_price : ∀ base : Heap, CalX l.prog w K mg base 1 "_law_price" (sp__law_price K ⟨TG_PRICES, fa⟩) pats__law_price := fun base => ok__law_price D_10 T 
  have R__law_near : ∀ base : Heap, CalX l.prog w K mg base 1 "_law_near" (sp__law_near K ⟨TG_PRICES, fa⟩) pats__law_near := fun base => ok__law_near D_11 T 

  refine ⟨PySem.W.fnOf "law" "law" (defArgs s_law) (defBody s_law) (defScope s_law) .none kV12 dc12 pm12 an12 cd12 ct12, fun s v => .of_eq rfl, fun base _ _ => (ok_law (AD := ⟨TG_PRICES, fa⟩) F12 T (R__law_cell base) (R__law_block base) (R_block_price base) (R__law_price base) (R__law_is_integer base) (R_near_vectors base) (R__law_near base)).imp ?_⟩
  rintro vs H Q E ⟨a, xs, rfl, hs, hl, q⟩
  exact ⟨a, xs, rfl, hs, by rw [law_true xs hl]; exact cW_mk rfl, q⟩
end Vx
open PySem PySem.W PyProof.Rows
set_option maxRecDepth 100000 in
set_option maxHeartbeats 0 in
theorem PySem.Challenge.cw_thaumatrope_k67_prices_and_near_vectors_holds : PySem.Challenge.rw_thaumatrope_k67_prices_and_near_vectors.Holds := by
  w_on; o_law; k_head; (case hw => w_witness2)
  k_fill
  refine Vx.walkG (l := PySem.Challenge.rw_thaumatrope_k67_prices_and_near_vectors) (n := 63) (k := 5) (x := "script") rfl (by decide) rfl ⟨rfl, by decide, by decide⟩ (fun w h Y => PySem.W.kIn_of Y) ?F
  case F =>
    intro w mg fa h KX G hmg
    refine' Vx.all_mk KX G hmg ?a0 ?l0 ?c0 ?k0 ?a1 ?l1 ?c1 ?k1 ?a2 ?l2 ?c2 ?k2 ?a3 ?l3 ?c3 ?k3 ?a4 ?l4 ?c4 ?k4 ?a5 ?l5 ?c5 ?k5 ?a6 ?l6 ?c6 ?k6 ?a7 ?l7 ?c7 ?k7 ?a8 ?l8 ?c8 ?k8 ?a9 ?l9 ?c9 ?k9 ?a10 ?l10 ?c10 ?k10 ?a11 ?l11 ?c11 ?k11 ?a12 ?l12 ?c12 ?k12 ?z0 ?z1 ?z2 ?y2 ?u2_0 ?u2_1 ?u2_2 ?z3 ?z4 ?z5 ?z6 ?z7 ?z8 ?z9 ?z10 ?z11 ?z12 ?z13
    (case a0 => k_is)
    (case l0 => k_is)
    (case c0 => k_is)
    (case k0 => k_is)
    (case a1 => k_is)
    (case l1 => k_is)
    (case c1 => k_is)
    (case k1 => k_is)
    (case a2 => k_is)
    (case l2 => k_is)
    (case c2 => k_is)
    (case k2 => k_is)
    (case a3 => k_is)
    (case l3 => k_is)
    (case c3 => k_is)
    (case k3 => k_is)
    (case a4 => k_is)
    (case l4 => k_is)
    (case c4 => k_is)
    (case k4 => k_is)
    (case a5 => k_is)
    (case l5 => k_is)
    (case c5 => k_is)
    (case k5 => k_is)
    (case a6 => k_is)
    (case l6 => k_is)
    (case c6 => k_is)
    (case k6 => k_is)
    (case a7 => k_is)
    (case l7 => k_is)
    (case c7 => k_is)
    (case k7 => k_is)
    (case a8 => k_is)
    (case l8 => k_is)
    (case c8 => k_is)
    (case k8 => k_is)
    (case a9 => k_is)
    (case l9 => k_is)
    (case c9 => k_is)
    (case k9 => k_is)
    (case a10 => k_is)
    (case l10 => k_is)
    (case c10 => k_is)
    (case k10 => k_is)
    (case a11 => k_is)
    (case l11 => k_is)
    (case c11 => k_is)
    (case k11 => k_is)
    (case a12 => k_is)
    (case l12 => k_is)
    (case c12 => k_is)
    (case k12 => k_is)
    (case z0 => k_is)
    (case z1 => k_is)
    (case z2 => k_is)
    (case y2 => k_is)
    (case u2_0 => rfl)
    (case u2_1 => rfl)
    (case u2_2 => rfl)
    (case z3 => k_is)
    (case z4 => k_is)
    (case z5 => k_is)
    (case z6 => k_is)
    (case z7 => k_is)
    (case z8 => k_is)
    (case z9 => k_is)
    (case z10 => k_is)
    (case z11 => k_is)
    (case z12 => k_is)
    (case z13 => k_is)
