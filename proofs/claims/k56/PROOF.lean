import PyProof.Rows.All
import Wide.All
import OpenK.AllK
import Wide.FinOn
import HandS.ForMost
import HandS.Codes
import HandS.Steps
import HandS.IsInst
import HandS.Property
import HandS.Wide
import HandS.WideBits
import HandS.Exc
import HandS.ExcOwn
import HandS.TryOnly
import HandS.WordsExc
import HandS.Defaults
import HandS.ExcIs
import HandS.MakeKwOnly
import PySem.Challenge.RW_thaumatrope_k56_edges_smoothed
set_option Elab.async false
set_option linter.all false
set_option maxRecDepth 100000
set_option maxHeartbeats 8000000
namespace Vx
open PySem PySem.Spec PyProof.Rows L2

/-! ### heaps -/
def SameX (m : Addr) (H H' : Hp) : Prop := ∀ b o, H b = some o → b ≠ m → H' b = some o
theorem gen_new {H H' : Hp} {p : Addr} {o : HO} (n : H p = none) (h : upd H p o = H') : Same H H' ∧ H' p = some o := by
  subst h
  exact ⟨fun b u e => by rw [upd_ne (ne_of_none e n)]; exact e, upd_same⟩
theorem gen_mut {H H' : Hp} {m : Addr} {o : HO} (h : upd H m o = H') : SameX m H H' ∧ H' m = some o := by
  subst h
  exact ⟨fun b u e n => by rw [upd_ne n]; exact e, upd_same⟩
theorem same_mut {H0 H H' : Hp} {m : Addr} (B : Same H0 H) (x : SameX m H H') (f : H0 m = none) : Same H0 H' :=
  fun b o e => x b o (B b o e) (ne_of_none e f)
theorem map_get {xs : List Int} {i : Nat} {x : V} (h : (xs.map V.int)[i]? = some x) : ∃ o, xs[i]? = some o ∧ x = .int o := by
  rw [List.getElem?_map] at h
  cases e : xs[i]? with
  | none => rw [e] at h; cases h
  | some z => rw [e] at h; exact ⟨z, rfl, (Option.some.inj h).symm⟩
theorem get_len {α : Type} {xs : List α} {i : Nat} {x : α} (h : xs[i]? = some x) : i < xs.length := (List.getElem?_eq_some_iff.mp h).1
theorem eq_int {Q : VK} {H : Hp} {a b : Int} (h : Q (.int a) H) (e : a = b) : Q (.int b) H := e ▸ h
theorem eq_bl {Q : VK} {H : Hp} {a b : Bool} (h : Q (.bl a) H) (e : a = b) : Q (.bl b) H := e ▸ h
theorem small {n : Nat} (h : n ≤ 1000000) : n < sizeLine := Nat.lt_of_le_of_lt h (by decide)
theorem smallE {n : Nat} (h : n ≤ 1000000) : n ≤ sizeLine := Nat.le_of_lt (small h)
theorem snoc_int {xs : List Int} {y : Int} {H : Hp} {p : Addr} (h : H p = some (.lst (xs.map V.int ++ [V.int y]))) : H p = some (.lst ((xs ++ [y]).map V.int)) := by
  rw [List.map_append]; exact h
theorem cat_int {xs ys : List Int} {H : Hp} {p : Addr} (h : H p = some (.lst (xs.map V.int ++ ys.map V.int))) : H p = some (.lst ((xs ++ ys).map V.int)) := by
  rw [List.map_append]; exact h
theorem cast_lst {xs ys : List Int} {H : Hp} {p : Addr} (h : H p = some (.lst (xs.map V.int))) (e : xs = ys) : H p = some (.lst (ys.map V.int)) := e ▸ h

/-! ### tests -/
theorem dT {p : Prop} [Decidable p] (h : decide p = true) : p := of_decide_eq_true h
theorem dF {p : Prop} [Decidable p] (h : ¬ decide p = true) : ¬ p := fun x => h (decide_eq_true x)
theorem iteD {p A B : Prop} [Decidable p] (h1 : p → A) (h2 : ¬ p → B) : if decide p = true then A else B := by
  by_cases h : p
  · rw [if_pos (decide_eq_true h)]; exact h1 h
  · rw [if_neg (fun x => h (of_decide_eq_true x))]; exact h2 h
theorem iteN {p A B : Prop} [Decidable p] (h1 : ¬ p → A) (h2 : p → B) : if (!decide p) = true then A else B := by
  by_cases h : p
  · rw [decide_eq_true h]; exact iteF (h2 h)
  · rw [decide_eq_false h]; exact iteT (h1 h)
theorem iteB {b : Bool} {A B : Prop} (h1 : b = true → A) (h2 : b = false → B) : if b = true then A else B := by
  cases b with
  | true => exact iteT (h1 rfl)
  | false => exact iteF (h2 rfl)
theorem iteBN {b : Bool} {A B : Prop} (h1 : b = false → A) (h2 : b = true → B) : if (!b) = true then A else B := by
  cases b with
  | true => exact iteF (h2 rfl)
  | false => exact iteT (h1 rfl)
theorem iteDT {p A B : Prop} [Decidable p] (h : p) (k : A) : if decide p = true then A else B := by
  rw [if_pos (decide_eq_true h)]; exact k
theorem iteDF {p A B : Prop} [Decidable p] (h : ¬ p) (k : B) : if decide p = true then A else B := by
  rw [if_neg (fun x => h (of_decide_eq_true x))]; exact k
theorem iteNT {p A B : Prop} [Decidable p] (h : ¬ p) (k : A) : if (!decide p) = true then A else B := iteN (fun _ => k) (fun x => (h x).elim)
theorem iteNF {p A B : Prop} [Decidable p] (h : p) (k : B) : if (!decide p) = true then A else B := iteN (fun x => (x h).elim) (fun _ => k)

/-! ### equality of lists of ints -/
theorem eqvAll_ints : ∀ xs ys : List Int, PyData.eqvAll (xs.map PyData.int) (ys.map PyData.int) = decide (xs = ys)
  | [], [] => by simp [PyData.eqvAll]
  | [], y :: ys => by simp [PyData.eqvAll]
  | x :: xs, [] => by simp [PyData.eqvAll]
  | x :: xs, y :: ys => by
    have ih := eqvAll_ints xs ys
    simp only [List.map_cons, PyData.eqvAll, PyData.eqv, ih]
    by_cases h : x = y <;> by_cases h2 : xs = ys <;> simp [h, h2]
end Vx

namespace Vx
open PySem PySem.Spec PyProof.Rows L2
section
variable {X : Cx}
def rEqLi (K : PySem.W.Frag) : R2 := fun x y H Q => ∃ (a b : Addr) (xs ys : List Int), x = .ref a ∧ y = .ref b ∧ SqL K H a (xs.map V.int) ∧ SqL K H b (ys.map V.int) ∧ Q (.bl (decide (xs = ys))) H
def rNeLi (K : PySem.W.Frag) : R2 := fun x y H Q => ∃ (a b : Addr) (xs ys : List Int), x = .ref a ∧ y = .ref b ∧ SqL K H a (xs.map V.int) ∧ SqL K H b (ys.map V.int) ∧ Q (.bl (!decide (xs = ys))) H
theorem dpAll_ints {K : PySem.W.Frag} {H : Hp} : ∀ xs : List Int, DpAll K H (xs.map V.int) (xs.map PyData.int)
  | [] => .nil
  | x :: xs => .cons (.int x) (dpAll_ints xs)
theorem dp_ints {K : PySem.W.Frag} {H : Hp} {a : Addr} {xs : List Int} (h : SqL K H a (xs.map V.int)) : Dp K H (.ref a) (.list (xs.map PyData.int)) := .lst h (dpAll_ints xs)
theorem canLay_ints : ∀ xs : List Int, PyData.canLayAll0 (xs.map PyData.int) = true
  | [] => by simp [PyData.canLayAll0]
  | x :: xs => by simp [PyData.canLayAll0, PyData.canLay0, canLay_ints xs]
theorem depth_ints : ∀ xs : List Int, PyData.depthAll (xs.map PyData.int) = 0
  | [] => by simp [PyData.depthAll]
  | x :: xs => by simp [PyData.depthAll, PyData.depth, depth_ints xs]
theorem shaped_ints (xs : List Int) : SeqAt.shaped (.list (xs.map PyData.int)) = true := by
  unfold SeqAt.shaped
  simp [PyData.canLay0, canLay_ints, PyData.depth, depth_ints]
theorem eqv_ints (xs ys : List Int) : PyData.eqv (.list (xs.map PyData.int)) (.list (ys.map PyData.int)) = decide (xs = ys) := by
  simp only [PyData.eqv]
  exact eqvAll_ints xs ys
theorem op_eqLi (hu : X.A.units + 64 < cLine) : OpR X (compareOp .Eq) (rEqLi X.K) := by
  intro pins s σ H x y v u Q I rx ry h
  obtain ⟨a, b, xs, ys, rfl, rfl, h1, h2, q⟩ := h
  exact op_eqD hu pins s σ H _ _ v u Q I rx ry ⟨_, _, dp_ints h1, dp_ints h2, shaped_ints xs, shaped_ints ys, by rw [eqv_ints]; exact q⟩
theorem op_neLi (hu : X.A.units + 64 < cLine) : OpR X (compareOp .NotEq) (rNeLi X.K) := by
  intro pins s σ H x y v u Q I rx ry h
  obtain ⟨a, b, xs, ys, rfl, rfl, h1, h2, q⟩ := h
  exact op_neD hu pins s σ H _ _ v u Q I rx ry ⟨_, _, dp_ints h1, dp_ints h2, shaped_ints xs, shaped_ints ys, by rw [eqv_ints]; exact q⟩

/-! ### items, slices, repetition, comprehensions of ints -/
def itI (xs : List Int) (i : Int) : Int := (atI xs i).getD 0
theorem atI_int {xs : List Int} {i : Int} (h : -(xs.length : Int) ≤ i ∧ i < xs.length) : atI (xs.map V.int) i = some (.int (itI xs i)) := by
  unfold itI atI
  rw [List.length_map]
  have hk : ∃ j, ixN xs.length i = some j ∧ j < xs.length := by
    unfold ixN
    by_cases h0 : 0 ≤ i
    · refine ⟨i.toNat, ?_, by omega⟩
      rw [if_pos h0, if_pos h.2]
    · refine ⟨(i + xs.length).toNat, ?_, by omega⟩
      rw [if_neg h0, if_pos h.1]
  obtain ⟨j, e, hj⟩ := hk
  rw [e]
  show (xs.map V.int)[j]? = some (V.int ((xs[j]?).getD 0))
  rw [List.getElem?_map, List.getElem?_eq_getElem hj] <;> rfl
def cutI (xs : List Int) (lo hi : Option Int) : List Int := (xs.drop (HT.sIx xs.length 0 lo)).take (HT.sIx xs.length xs.length hi - HT.sIx xs.length 0 lo)
theorem cut_int {xs : List Int} {lo hi : Option Int} {H : Hp} {p : Addr} (h : H p = some (.lst (cutV (xs.map V.int) lo hi))) : H p = some (.lst ((cutI xs lo hi).map V.int)) := by
  rw [h]
  unfold cutV cutI
  rw [List.length_map, List.map_take, List.map_drop]
def rep (xs : List Int) (k : Int) : List Int := (List.replicate k.toNat xs).flatten
theorem rep_int {xs : List Int} {k : Int} {H : Hp} {p : Addr} (h : H p = some (.lst (List.replicate k.toNat (xs.map V.int)).flatten)) : H p = some (.lst ((rep xs k).map V.int)) := by
  rw [h]
  unfold rep
  rw [List.map_flatten, List.map_replicate]
theorem divW_lit {i j : Int} (h : 0 < j) (h2 : j.natAbs.log2 < 9000) : CDivW i j := ⟨h, h2⟩
theorem divW_small {i j : Int} (h : 0 < j) (h2 : j < 2 ^ 128) : CDivW i j := wide_div h (show j.natAbs < 2 ^ 128 by omega) (by decide) (by decide)
theorem comp_list {xs : List Int} {i : Nat} {x y : Int} {f : Int → Int} {H : Hp} {D : Addr} (hi : xs[i]? = some x) (h : H D = some (.lst (((xs.take i).map f).map V.int ++ [V.int y]))) (e : f x = y) : H D = some (.lst (((xs.take (i + 1)).map f).map V.int)) := by
  rw [h, ← e, List.take_succ, hi, List.map_append, List.map_append] <;> rfl
theorem comp_done {xs : List Int} {f : Int → Int} {H : Hp} {D : Addr} (h : H D = some (.lst (((xs.take (xs.map V.int).length).map f).map V.int))) : H D = some (.lst ((xs.map f).map V.int)) := by
  rw [List.length_map, List.take_length] at h
  exact h
theorem comp_range {i : Nat} {y : Int} {f : Nat → Int} {H : Hp} {D : Addr} (h : H D = some (.lst (((List.range i).map f).map V.int ++ [V.int y]))) (e : f i = y) : H D = some (.lst (((List.range (i + 1)).map f).map V.int)) := by
  rw [h, ← e, List.range_succ, List.map_append, List.map_append] <;> rfl
theorem iteBT {b : Bool} {A B : Prop} (h : b = true) (k : A) : if b = true then A else B := by rw [if_pos h]; exact k
theorem iteBF {b : Bool} {A B : Prop} (h : b = false) (k : B) : if b = true then A else B := by rw [if_neg (by rw [h]; decide)]; exact k
theorem take_succ_get {α : Type} {xs : List α} {i : Nat} {x : α} (hi : xs[i]? = some x) : xs.take (i + 1) = xs.take i ++ [x] := by rw [List.take_succ, hi] <;> rfl
end

/-! ### defs of the module, as callers see them -/
section
variable {P : Program} {w : World} {K : PySem.W.Frag} {mg : Str → Option Value} {base : Heap}
structure DefIn (K : PySem.W.Frag) (mg : Str → Option Value) (x : Str) (st : Stmt) (ps : List Str) : Prop where
  ex : ∃ (f : Addr) (fd : FuncData), Fun K x x st f fd ∧ mg x = some (.ref f) ∧ Binds K fd ps []
structure Cal (P : Program) (w : World) (K : PySem.W.Frag) (mg : Str → Option Value) (base : Heap) (k : Nat) (x : Str) (sp : Sp) : Prop where
  ex : ∃ (f : Addr) (fd : FuncData) (ps : List Str), FnOk P w K mg base CX0 k f fd ps sp ∧ mg x = some (.ref f) ∧ PySem.W.keepIn K (.ref f) = true ∧ Binds K fd ps []
theorem DefIn.ok {x : Str} {st : Stmt} {N ps : List Str} {k : Nat} {sp : Sp} (D : DefIn K mg x st ps) (S : FnScope N ps (defScope st)) (len : ∀ vs H Q E, sp vs H Q E → vs.length = ps.length)
    (hbody : ∀ (f : Addr) (cdv : Value) (A : Around) (outer : List Env) (s : Shared) (H : Hp) (vs : List V) (Q : VK) (E : XK), Room k (A.deeper (envOfC x (defScope st) s.heap.objs.size f cdv)) → sp vs H Q E →
      ∃ t, PSs (cxOf CX0 P w K mg base N x (defScope st) f cdv A outer s H E).nox (defBody st) t ∧ t { nx := fun _ H' => Q .non H', rt := Q } (start N vs) H) : Cal P w K mg base (k + 1) x sp := by
  obtain ⟨f, fd, F, hm, b⟩ := D.ex
  exact ⟨f, fd, ps, F.ok S len (fun cdv A outer s H vs Q E hr h => hbody f cdv A outer s H vs Q E hr h), hm, F.kp, b⟩
end
section
variable {X : Cx} {k j : Nat} {x : Str} {sp : Sp} {p pos : Pos} {e : Expr} {es : List Expr} {t : TA}
theorem vx_call (c : Cal X.prog X.w X.K X.mg X.base k x sp) (hr : Room j X.A) (hk : k ≤ j) (hg : Gl X x) (ha : PA X (e :: es) t)
    (hdb : (x == ("__debug__" : Str)) = false := by decide) (he : starEach (e :: es) X.env = (false, eval e X.env) :: starEach es X.env := by rfl) (hpl : (backTo pos (starEach es X.env)).any (·.1) = false := by rfl) :
    PE X (.Call (.Name x p) (e :: es) [] pos) (tCall sp [] E0 t) := by
  obtain ⟨f, fd, ps, F, hm, kp, b⟩ := c.ex
  exact pe_call F (hr.mono hk) hg hm kp b .nil pass0 ha hdb he hpl
end
end Vx

namespace Vx
open PySem PySem.Spec PyProof.Rows L2
section
variable {σ : L2.St} {H : Hp} {ta tb : TE} {x y z : V} {t : TT}
theorem vv_and {a b : Bool} (h1 : Val ta σ H (.bl a)) (h2 : Val tb σ H (.bl b)) : Val (tAndV ta tb) σ H (.bl (a && b)) := fun Q q => h1 _ ⟨a, rfl, by
  cases a with
  | true => exact iteT (h2 Q q)
  | false => exact iteF q⟩
theorem vv_or {a b : Bool} (h1 : Val ta σ H (.bl a)) (h2 : Val tb σ H (.bl b)) : Val (tOrV ta tb) σ H (.bl (a || b)) := fun Q q => h1 _ ⟨a, rfl, by
  cases a with
  | true => exact iteT q
  | false => exact iteF (h2 Q q)⟩
theorem vv_not {a : Bool} (h1 : Val ta σ H (.bl a)) : Val (tNotV ta) σ H (.bl (!a)) := fun Q q => h1 _ ⟨a, rfl, q⟩
theorem vv_un {r : V → Hp → VK → Prop} (ha : Val ta σ H x) (hr : ∀ Q : VK, Q z H → r x H Q) : Val (tUn r ta) σ H z := fun Q q => ha _ (hr Q q)
theorem vv_cmp {p : Int → Int → Bool} (ha : Val ta σ H x) (hb : Val tb σ H y) (hr : ∀ Q : VK, Q z H → ∃ i j, x = .int i ∧ y = .int j ∧ Q (.bl (p i j)) H) : Val (tCmp p ta tb) σ H z := fun Q q => ha _ (hb _ (hr Q q))
theorem vv_call1 {r : List V → Hp → VK → Prop} (ha : Val ta σ H x) (hr : ∀ Q : VK, Q z H → r [x] H Q) : Val (tCB r (tCons ta tNil)) σ H z := fun Q q => ha _ (hr Q q)
theorem vt_cmp {b : Bool} (h : Val ta σ H (.bl b)) : Ans (tB ta) σ H b := fun Q q => h _ ⟨b, rfl, q⟩
theorem vt_val {b : Bool} (h : Val ta σ H (.bl b)) : Ans (tB ta) σ H b := fun Q q => h _ ⟨b, rfl, q⟩
theorem vt_int {i : Int} {K : PySem.W.Frag} (h : Val ta σ H (.int i)) : Ans (fun σ H Q => ta σ H fun x H' => ∃ k, TruV K x H' k ∧ Q k H') σ H (i != 0) := fun Q q => h _ ⟨_, rfl, q⟩
theorem vv_if {p : Prop} [Decidable p] {a b : Int} (ht : Ans t σ H (decide p)) (hx : Val ta σ H (.int a)) (hy : Val tb σ H (.int b)) : Val (tIf t ta tb) σ H (.int (if p then a else b)) := fun Q q => ht _ (by
  by_cases h : p
  · rw [if_pos h] at q; exact iteDT h (hx Q q)
  · rw [if_neg h] at q; exact iteDF h (hy Q q))
theorem vv_ifb {c : Bool} {a b : Int} (ht : Ans t σ H c) (hx : Val ta σ H (.int a)) (hy : Val tb σ H (.int b)) : Val (tIf t ta tb) σ H (.int (if c = true then a else b)) := fun Q q => ht _ (by
  cases c with
  | true => exact iteT (hx Q q)
  | false => exact iteF (hy Q q))
end
end Vx

namespace Vx
open PySem PySem.Spec PyProof.Rows L2
def rLenLi (K : PySem.W.Frag) : List V → Hp → VK → Prop := fun xs H Q => ∃ (p : Addr) (ns : List Int), xs = [.ref p] ∧ SqL K H p (ns.map V.int) ∧ Q (.int (ns.length : Int)) H
theorem call_lenLi {X : Cx} : CallR X (.builtin "len") (rLenLi X.K) := by
  intro pins s σ H xs us Q I r h
  obtain ⟨p, ns, rfl, hs, q⟩ := h
  exact call_len_seq pins s σ H _ us Q I r ⟨p, _, rfl, Or.inl hs, by rw [List.length_map]; exact q⟩
end Vx

namespace Vx
open PySem PySem.Spec PyProof.Rows L2
section
variable {X : Cx} {K : PySem.W.Frag}
theorem ix_listK (hK : X.K = K := by rfl) : IxR X (rIxL K) := hK ▸ ix_list
theorem sl_listK (hK : X.K = K := by rfl) : SlR X (rSlL K) := hK ▸ sl_list
theorem call_lenLiK (hK : X.K = K := by rfl) : CallR X (.builtin "len") (rLenLi K) := hK ▸ call_lenLi
theorem op_eqLiK (hu : X.A.units + 64 < cLine) (hK : X.K = K := by rfl) : OpR X (compareOp .Eq) (rEqLi K) := hK ▸ op_eqLi hu
theorem op_neLiK (hu : X.A.units + 64 < cLine) (hK : X.K = K := by rfl) : OpR X (compareOp .NotEq) (rNeLi K) := hK ▸ op_neLi hu
theorem pi_listK {tg l : Expr} {tl : TE} (hl : PE X l tl) (hK : X.K = K := by rfl) : PI X tg l (iList K tl) := hK ▸ pi_list hl
theorem cr_sumK (hc : X.calm = true) (hK : X.K = K := by rfl) : CallR X (.builtin "sum") (rSum K) := hK ▸ cr_sum hc
theorem cr_maxK (hc : X.calm = true) (hK : X.K = K := by rfl) : CallR X (.builtin "max") (rMax K) := hK ▸ cr_max hc
theorem cr_minK (hc : X.calm = true) (hK : X.K = K := by rfl) : CallR X (.builtin "min") (rMin K) := hK ▸ cr_min hc
end
end Vx

namespace Vx
open PySem PySem.Spec PyProof.Rows L2
theorem tyes_go {σ : L2.St} {H : Hp} {f g : Hp → Prop} (h : f H) : tYes σ H (fun b H3 => if b = true then f H3 else g H3) := by
  show if true = true then f H else g H
  exact iteT h
end Vx

/-! # second part: data of any depth, the stable heap G, the owned addresses O -/
namespace Vx
open PySem PySem.Spec PyProof.Rows L2
mutual
inductive Rp (H : Hp) : V → PyData → Prop
  | non : Rp H .non .none
  | bl (b : Bool) : Rp H (.bl b) (.bool b)
  | int (i : Int) : Rp H (.int i) (.int i)
  | str (x : Str) : Rp H (.str x) (.str x)
  | lst {a : Addr} {xs : List V} {ds : List PyData} : H a = some (.lst xs) → RpAll H xs ds → Rp H (.ref a) (.list ds)
  | tup {a : Addr} {xs : List V} {ds : List PyData} : H a = some (.tup xs) → RpAll H xs ds → Rp H (.ref a) (.tuple ds)
inductive RpAll (H : Hp) : List V → List PyData → Prop
  | nil : RpAll H [] []
  | cons {v : V} {vs : List V} {d : PyData} {ds : List PyData} : Rp H v d → RpAll H vs ds → RpAll H (v :: vs) (d :: ds)
end
mutual
theorem Rp.mono {H H' : Hp} (e : Same H H') : ∀ {v : V} {d : PyData}, Rp H v d → Rp H' v d
  | _, _, .non => .non
  | _, _, .bl b => .bl b
  | _, _, .int i => .int i
  | _, _, .str x => .str x
  | _, _, .lst h r => .lst (e _ _ h) (RpAll.mono e r)
  | _, _, .tup h r => .tup (e _ _ h) (RpAll.mono e r)
theorem RpAll.mono {H H' : Hp} (e : Same H H') : ∀ {vs : List V} {ds : List PyData}, RpAll H vs ds → RpAll H' vs ds
  | _, _, .nil => .nil
  | _, _, .cons a b => .cons (Rp.mono e a) (RpAll.mono e b)
end
mutual
theorem Rp.dp {K : PySem.W.Frag} {H : Hp} : ∀ {v : V} {d : PyData}, Rp H v d → Dp K H v d
  | _, _, .non => .non
  | _, _, .bl b => .bl b
  | _, _, .int i => .int i
  | _, _, .str x => .str x
  | _, _, .lst h r => .lst (SqL.of h) (RpAll.dp r)
  | _, _, .tup h r => .tup (SqT.of h) (RpAll.dp r)
theorem RpAll.dp {K : PySem.W.Frag} {H : Hp} : ∀ {vs : List V} {ds : List PyData}, RpAll H vs ds → DpAll K H vs ds
  | _, _, .nil => .nil
  | _, _, .cons a b => .cons (Rp.dp a) (RpAll.dp b)
end
theorem RpAll.append {H : Hp} : ∀ {xs ys : List V} {ds es : List PyData}, RpAll H xs ds → RpAll H ys es → RpAll H (xs ++ ys) (ds ++ es)
  | _, _, _, _, .nil, s => s
  | _, _, _, _, .cons r t, s => .cons r (RpAll.append t s)
theorem RpAll.ints {H : Hp} : ∀ xs : List Int, RpAll H (xs.map V.int) (xs.map PyData.int)
  | [] => .nil
  | x :: xs => .cons (.int x) (RpAll.ints xs)
theorem RpAll.bls {H : Hp} : ∀ xs : List Bool, RpAll H (xs.map V.bl) (xs.map PyData.bool)
  | [] => .nil
  | x :: xs => .cons (.bl x) (RpAll.bls xs)
theorem RpAll.one {H : Hp} {v : V} {d : PyData} (h : Rp H v d) : RpAll H [v] [d] := .cons h .nil
theorem RpAll.len {H : Hp} : ∀ {vs : List V} {ds : List PyData}, RpAll H vs ds → vs.length = ds.length
  | _, _, .nil => rfl
  | _, _, .cons _ t => by rw [List.length_cons, List.length_cons, RpAll.len t]
theorem RpAll.at {H : Hp} : ∀ {vs : List V} {ds : List PyData} {i : Nat} {v : V}, RpAll H vs ds → vs[i]? = some v → ∃ d, ds[i]? = some d ∧ Rp H v d
  | _, _, _, _, .nil, h => by simp at h
  | _, _, 0, _, .cons r _, h => by
    simp at h
    subst h
    exact ⟨_, rfl, r⟩
  | _, _, i + 1, _, .cons _ t, h => by
    obtain ⟨d, h1, h2⟩ := RpAll.at (i := i) t (by simpa using h)
    exact ⟨d, by simpa using h1, h2⟩
theorem RpAll.at' {H : Hp} : ∀ {vs : List V} {ds : List PyData} {i : Nat} {d : PyData}, RpAll H vs ds → ds[i]? = some d → ∃ v, vs[i]? = some v ∧ Rp H v d
  | _, _, _, _, .nil, h => by simp at h
  | _, _, 0, _, .cons r _, h => by
    simp at h
    subst h
    exact ⟨_, rfl, r⟩
  | _, _, i + 1, _, .cons _ t, h => by
    obtain ⟨v, h1, h2⟩ := RpAll.at' (i := i) t (by simpa using h)
    exact ⟨v, by simpa using h1, h2⟩
theorem RpAll.take {H : Hp} : ∀ (n : Nat) {vs : List V} {ds : List PyData}, RpAll H vs ds → RpAll H (vs.take n) (ds.take n)
  | 0, _, _, _ => by simpa using RpAll.nil
  | n + 1, _, _, .nil => by simpa using RpAll.nil
  | n + 1, _, _, .cons r t => .cons r (RpAll.take n t)
theorem RpAll.drop {H : Hp} : ∀ (n : Nat) {vs : List V} {ds : List PyData}, RpAll H vs ds → RpAll H (vs.drop n) (ds.drop n)
  | 0, _, _, r => r
  | n + 1, _, _, .nil => by simpa using RpAll.nil
  | n + 1, _, _, .cons r t => RpAll.drop n t
theorem RpAll.set {H : Hp} {v : V} {d : PyData} (h : Rp H v d) : ∀ (n : Nat) {vs : List V} {ds : List PyData}, RpAll H vs ds → RpAll H (vs.set n v) (ds.set n d)
  | _, _, _, .nil => .nil
  | 0, _, _, .cons _ t => .cons h t
  | n + 1, _, _, .cons r t => .cons r (RpAll.set h n t)
theorem RpAll.rep {H : Hp} {vs : List V} {ds : List PyData} (h : RpAll H vs ds) : ∀ n : Nat, RpAll H (List.replicate n vs).flatten (List.replicate n ds).flatten
  | 0 => by simpa using RpAll.nil
  | n + 1 => by
    rw [List.replicate_succ, List.flatten_cons, List.replicate_succ, List.flatten_cons]
    exact RpAll.append h (RpAll.rep h n)
theorem RpAll.get {α : Type} {f : α → PyData} {H : Hp} {vs : List V} {xs : List α} {i : Nat} {v : V} (r : RpAll H vs (xs.map f)) (h : vs[i]? = some v) : ∃ x, xs[i]? = some x ∧ Rp H v (f x) := by
  obtain ⟨d, h1, h2⟩ := RpAll.at r h
  rw [List.getElem?_map] at h1
  cases e : xs[i]? with
  | none => rw [e] at h1; cases h1
  | some x =>
    rw [e] at h1
    have : f x = d := Option.some.inj h1
    exact ⟨x, rfl, this ▸ h2⟩
/-- the item at an index, data -/
theorem RpAll.ix {α : Type} {f : α → PyData} {H : Hp} {vs : List V} {xs : List α} {k : Int} (r : RpAll H vs (xs.map f)) (h : -(xs.length : Int) ≤ k ∧ k < xs.length) : ∃ v x, atI vs k = some v ∧ atI xs k = some x ∧ Rp H v (f x) := by
  have hl : vs.length = xs.length := by rw [r.len, List.length_map]
  have hk : ∃ j, ixN xs.length k = some j ∧ j < xs.length := by
    unfold ixN
    by_cases h0 : 0 ≤ k
    · refine ⟨k.toNat, ?_, by omega⟩
      rw [if_pos h0, if_pos h.2]
    · refine ⟨(k + xs.length).toNat, ?_, by omega⟩
      rw [if_neg h0, if_pos h.1]
  obtain ⟨j, e, hj⟩ := hk
  have hx := List.getElem?_eq_getElem hj
  obtain ⟨v, h1, h2⟩ := RpAll.at' (i := j) (d := f xs[j]) r (by rw [List.getElem?_map, hx] <;> rfl)
  refine ⟨v, xs[j], ?_, ?_, h2⟩
  · unfold atI
    rw [hl, e]
    exact h1
  · unfold atI
    rw [e]
    exact hx

/-! ### types -/
def encL {α : Type} (f : α → PyData) (xs : List α) : PyData := .list (xs.map f)
def encT2 {α β : Type} (f : α → PyData) (g : β → PyData) (p : α × β) : PyData := .tuple [f p.1, g p.2]
def encT3 {α β γ : Type} (f : α → PyData) (g : β → PyData) (h : γ → PyData) (p : α × β × γ) : PyData := .tuple [f p.1, g p.2.1, h p.2.2]
def encT4 {α β γ δ : Type} (f : α → PyData) (g : β → PyData) (h : γ → PyData) (i : δ → PyData) (p : α × β × γ × δ) : PyData := .tuple [f p.1, g p.2.1, h p.2.2.1, i p.2.2.2]
structure EncOk {α : Type} [DecidableEq α] (n : Nat) (f : α → PyData) : Prop where
  lay : ∀ x, PyData.canLay0 (f x) = true
  dep : ∀ x, PyData.depth (f x) ≤ n
  eqv : ∀ x y, PyData.eqv (f x) (f y) = decide (x = y)
theorem encOk_int : EncOk 0 PyData.int := ⟨fun _ => by simp [PyData.canLay0], fun _ => by simp [PyData.depth], fun x y => by simp [PyData.eqv]; by_cases h : x = y <;> simp [h]⟩
theorem encOk_bool : EncOk 0 PyData.bool := ⟨fun _ => by simp [PyData.canLay0], fun _ => by simp [PyData.depth], fun x y => by cases x <;> cases y <;> simp [PyData.eqv]⟩
section
variable {α β γ δ : Type} [DecidableEq α] [DecidableEq β] [DecidableEq γ] [DecidableEq δ] {n m l o : Nat} {f : α → PyData} {g : β → PyData} {h : γ → PyData} {i : δ → PyData}
theorem lay_map (ok : EncOk n f) : ∀ xs : List α, PyData.canLayAll0 (xs.map f) = true
  | [] => by simp [PyData.canLayAll0]
  | x :: xs => by simp [PyData.canLayAll0, ok.lay x, lay_map ok xs]
theorem dep_map (ok : EncOk n f) : ∀ xs : List α, PyData.depthAll (xs.map f) ≤ n
  | [] => by simp [PyData.depthAll]
  | x :: xs => by
    have h1 := ok.dep x
    have h2 := dep_map ok xs
    simp only [List.map_cons, PyData.depthAll]
    omega
theorem eqv_map (ok : EncOk n f) : ∀ xs ys : List α, PyData.eqvAll (xs.map f) (ys.map f) = decide (xs = ys)
  | [], [] => by simp [PyData.eqvAll]
  | [], y :: ys => by simp [PyData.eqvAll]
  | x :: xs, [] => by simp [PyData.eqvAll]
  | x :: xs, y :: ys => by
    have ih := eqv_map ok xs ys
    simp only [List.map_cons, PyData.eqvAll, ok.eqv, ih]
    by_cases h : x = y <;> by_cases h2 : xs = ys <;> simp [h, h2]
theorem encOk_L (ok : EncOk n f) : EncOk (n + 1) (encL f) := ⟨fun xs => by simp [encL, PyData.canLay0, lay_map ok], fun xs => by
  have := dep_map ok xs
  simp only [encL, PyData.depth]
  omega, fun xs ys => by simp only [encL, PyData.eqv]; exact eqv_map ok xs ys⟩
theorem encOk_T2 (ok : EncOk n f) (ok2 : EncOk m g) : EncOk (max n m + 1) (encT2 f g) := ⟨fun x => by simp [encT2, PyData.canLay0, PyData.canLayAll0, ok.lay, ok2.lay], fun x => by
  have h1 := ok.dep x.1
  have h2 := ok2.dep x.2
  simp only [encT2, PyData.depth, PyData.depthAll]
  omega, fun x y => by
  obtain ⟨a, b⟩ := x
  obtain ⟨c, d⟩ := y
  simp only [encT2, PyData.eqv, PyData.eqvAll, ok.eqv, ok2.eqv, Prod.mk.injEq]
  by_cases h1 : a = c <;> by_cases h2 : b = d <;> simp [h1, h2]⟩
theorem encOk_T3 (ok : EncOk n f) (ok2 : EncOk m g) (ok3 : EncOk l h) : EncOk (max n (max m l) + 1) (encT3 f g h) := ⟨fun x => by simp [encT3, PyData.canLay0, PyData.canLayAll0, ok.lay, ok2.lay, ok3.lay], fun x => by
  have h1 := ok.dep x.1
  have h2 := ok2.dep x.2.1
  have h3 := ok3.dep x.2.2
  simp only [encT3, PyData.depth, PyData.depthAll]
  omega, fun x y => by
  obtain ⟨a, b, e⟩ := x
  obtain ⟨c, d, e'⟩ := y
  simp only [encT3, PyData.eqv, PyData.eqvAll, ok.eqv, ok2.eqv, ok3.eqv, Prod.mk.injEq]
  by_cases h1 : a = c <;> by_cases h2 : b = d <;> by_cases h3 : e = e' <;> simp [h1, h2, h3]⟩
theorem encOk_T4 (ok : EncOk n f) (ok2 : EncOk m g) (ok3 : EncOk l h) (ok4 : EncOk o i) : EncOk (max n (max m (max l o)) + 1) (encT4 f g h i) := ⟨fun x => by simp [encT4, PyData.canLay0, PyData.canLayAll0, ok.lay, ok2.lay, ok3.lay, ok4.lay], fun x => by
  have h1 := ok.dep x.1
  have h2 := ok2.dep x.2.1
  have h3 := ok3.dep x.2.2.1
  have h4 := ok4.dep x.2.2.2
  simp only [encT4, PyData.depth, PyData.depthAll]
  omega, fun x y => by
  obtain ⟨a, b, e, u⟩ := x
  obtain ⟨c, d, e', u'⟩ := y
  simp only [encT4, PyData.eqv, PyData.eqvAll, ok.eqv, ok2.eqv, ok3.eqv, ok4.eqv, Prod.mk.injEq]
  by_cases h1 : a = c <;> by_cases h2 : b = d <;> by_cases h3 : e = e' <;> by_cases h4 : u = u' <;> simp [h1, h2, h3, h4]⟩
end
section
variable {X : Cx} {α : Type} [DecidableEq α] {n : Nat} {f : α → PyData}
def rEqT (f : α → PyData) : R2 := fun x y H Q => ∃ (a b : α), Rp H x (f a) ∧ Rp H y (f b) ∧ Q (.bl (decide (a = b))) H
def rNeT (f : α → PyData) : R2 := fun x y H Q => ∃ (a b : α), Rp H x (f a) ∧ Rp H y (f b) ∧ Q (.bl (!decide (a = b))) H
theorem shaped_of (ok : EncOk n f) (hn : n ≤ 64) (a : α) : SeqAt.shaped (f a) = true := by
  unfold SeqAt.shaped
  have h := ok.dep a
  rw [ok.lay]
  simp
  omega
theorem op_eqT (ok : EncOk n f) (hu : X.A.units + 64 < cLine) (hn : n ≤ 64 := by decide) : OpR X (compareOp .Eq) (rEqT f) := by
  intro pins s σ H x y v u Q I rx ry h
  obtain ⟨a, b, h1, h2, q⟩ := h
  exact op_eqD hu pins s σ H _ _ v u Q I rx ry ⟨_, _, h1.dp, h2.dp, shaped_of ok hn a, shaped_of ok hn b, by rw [ok.eqv]; exact q⟩
theorem op_neT (ok : EncOk n f) (hu : X.A.units + 64 < cLine) (hn : n ≤ 64 := by decide) : OpR X (compareOp .NotEq) (rNeT f) := by
  intro pins s σ H x y v u Q I rx ry h
  obtain ⟨a, b, h1, h2, q⟩ := h
  exact op_neD hu pins s σ H _ _ v u Q I rx ry ⟨_, _, h1.dp, h2.dp, shaped_of ok hn a, shaped_of ok hn b, by rw [ok.eqv]; exact q⟩
end
section
variable {H : Hp} {v : V} {α β γ δ : Type} {f : α → PyData} {g : β → PyData} {h : γ → PyData} {i : δ → PyData}
theorem rp_int {x : Int} (r : Rp H v (.int x)) : v = .int x := by cases r; rfl
theorem rp_bool {x : Bool} (r : Rp H v (.bool x)) : v = .bl x := by cases r; rfl
theorem rp_str {x : Str} (r : Rp H v (.str x)) : v = .str x := by cases r; rfl
theorem rp_list {xs : List α} (r : Rp H v (encL f xs)) : ∃ a vs, v = .ref a ∧ H a = some (.lst vs) ∧ RpAll H vs (xs.map f) := by
  unfold encL at r
  cases r with
  | lst h1 h2 => exact ⟨_, _, rfl, h1, h2⟩
theorem rpAll_ints : ∀ {vs : List V} {xs : List Int}, RpAll H vs (xs.map PyData.int) → vs = xs.map V.int
  | _, [], .nil => rfl
  | _, x :: xs, .cons r t => by rw [rp_int r, rpAll_ints t] <;> rfl
theorem rp_ints {xs : List Int} (r : Rp H v (encL PyData.int xs)) : ∃ a, v = .ref a ∧ H a = some (.lst (xs.map V.int)) := by
  obtain ⟨a, vs, e, h1, h2⟩ := rp_list r
  rw [rpAll_ints h2] at h1
  exact ⟨a, e, h1⟩
theorem rp_tup2 {x : α × β} (r : Rp H v (encT2 f g x)) : ∃ a v1 v2, v = .ref a ∧ H a = some (.tup [v1, v2]) ∧ Rp H v1 (f x.1) ∧ Rp H v2 (g x.2) := by
  unfold encT2 at r
  cases r with
  | tup h1 h2 =>
    cases h2 with
    | cons a b =>
      cases b with
      | cons b c =>
        cases c
        exact ⟨_, _, _, rfl, h1, a, b⟩
theorem rp_tup3 {x : α × β × γ} (r : Rp H v (encT3 f g h x)) : ∃ a v1 v2 v3, v = .ref a ∧ H a = some (.tup [v1, v2, v3]) ∧ Rp H v1 (f x.1) ∧ Rp H v2 (g x.2.1) ∧ Rp H v3 (h x.2.2) := by
  unfold encT3 at r
  cases r with
  | tup h1 h2 =>
    cases h2 with
    | cons a b =>
      cases b with
      | cons b c =>
        cases c with
        | cons c d =>
          cases d
          exact ⟨_, _, _, _, rfl, h1, a, b, c⟩
theorem rp_mk_list {a : Addr} {vs : List V} {xs : List α} (h1 : H a = some (.lst vs)) (h2 : RpAll H vs (xs.map f)) : Rp H (.ref a) (encL f xs) := .lst h1 h2
theorem rp_mk_ints {a : Addr} {xs : List Int} (h1 : H a = some (.lst (xs.map V.int))) : Rp H (.ref a) (encL PyData.int xs) := .lst h1 (RpAll.ints xs)
theorem rp_mk2 {a : Addr} {v1 v2 : V} {x : α} {y : β} (h1 : H a = some (.tup [v1, v2])) (r1 : Rp H v1 (f x)) (r2 : Rp H v2 (g y)) : Rp H (.ref a) (encT2 f g (x, y)) := .tup h1 (.cons r1 (.cons r2 .nil))
theorem rp_mk3 {a : Addr} {v1 v2 v3 : V} {x : α} {y : β} {z : γ} (h1 : H a = some (.tup [v1, v2, v3])) (r1 : Rp H v1 (f x)) (r2 : Rp H v2 (g y)) (r3 : Rp H v3 (h z)) : Rp H (.ref a) (encT3 f g h (x, y, z)) := .tup h1 (.cons r1 (.cons r2 (.cons r3 .nil)))
end

/-! ### the two heaps -/
def SameXs (L : List Addr) (H H' : Hp) : Prop := ∀ b o, H b = some o → b ∉ L → H' b = some o
theorem SameXs.of {H H' : Hp} {m : Addr} (x : SameX m H H') : SameXs [m] H H' := fun b o e n => x b o e (fun z => n (by rw [z]; exact List.mem_cons_self))
theorem ni1 {b m : Addr} (h : b ≠ m) : b ∉ [m] := by simpa using h
theorem ni2 {b m n : Addr} (h : b ≠ m) (h2 : b ≠ n) : b ∉ [m, n] := by simp [h, h2]
theorem ni3 {b m n o : Addr} (h : b ≠ m) (h2 : b ≠ n) (h3 : b ≠ o) : b ∉ [m, n, o] := by simp [h, h2, h3]
theorem ni4 {b m n o p : Addr} (h : b ≠ m) (h2 : b ≠ n) (h3 : b ≠ o) (h4 : b ≠ p) : b ∉ [m, n, o, p] := by simp [h, h2, h3, h4]
def hideL (L : List Addr) (H : Hp) : Hp := fun b => if b ∈ L then none else H b
theorem hideL_same (L : List Addr) (H : Hp) : Same (hideL L H) H := fun b o e => by
  unfold hideL at e
  split at e
  · cases e
  · exact e
theorem hideL_in {L : List Addr} {H : Hp} {b : Addr} (h : b ∈ L) : hideL L H b = none := if_pos h
theorem hideL_out {L : List Addr} {H : Hp} {b : Addr} (h : b ∉ L) : hideL L H b = H b := if_neg h
/-- M: owned from outside; H0, G0: at the entry; G: what stays as it is; O: what may change -/
structure Sep (M : List Addr) (H0 G0 G H : Hp) (O : List Addr) : Prop where
  base : SameXs M H0 H
  pm : ∀ a ∈ M, H a ≠ none
  sG : Same G H
  g0 : Same G0 G
  gn : ∀ b, H0 b ≠ none → G0 b = none → G b = none
  ow : ∀ a ∈ O, G a = none ∧ H a ≠ none ∧ (a ∈ M ∨ H0 a = none)
theorem all_nil {P : Addr → Prop} : ∀ x ∈ ([] : List Addr), P x := fun x h => by cases h
theorem all_cons {P : Addr → Prop} {a : Addr} {l : List Addr} (h : P a) (t : ∀ x ∈ l, P x) : ∀ x ∈ a :: l, P x := fun x hx => by
  cases hx with
  | head => exact h
  | tail _ hx => exact t x hx
theorem some_ne {H : Hp} {a : Addr} {o : HO} (h : H a = some o) : H a ≠ none := by
  rw [h]
  exact fun z => nomatch z
theorem same_ne {H H' : Hp} {a : Addr} (e : Same H H') (h : H a ≠ none) : H' a ≠ none := by
  cases q : H a with
  | none => exact absurd q h
  | some o => exact some_ne (e a o q)
section
variable {M : List Addr} {H0 G0 G H H' : Hp} {O : List Addr} {p m : Addr} {o : HO}
theorem Sep.start (M : List Addr) (H : Hp) (hM : ∀ a ∈ M, H a ≠ none) : Sep M H (hideL M H) (hideL M H) H M :=
  ⟨fun _ _ e _ => e, hM, hideL_same M H, Same.refl _, fun _ _ e => e, fun a ha => ⟨hideL_in ha, hM a ha, .inl ha⟩⟩
theorem Sep.startG {G H : Hp} (e : Same G H) : Sep [] H G G H [] := ⟨fun _ _ e _ => e, all_nil, e, Same.refl _, fun _ _ e => e, fun a ha => by cases ha⟩
theorem Sep.start0 (H : Hp) : Sep [] H H H H [] := Sep.startG (Same.refl H)
theorem Sep.b0 (S : Sep [] H0 G0 G H O) : Same H0 H := fun b o e => S.base b o e List.not_mem_nil
theorem Sep.free (S : Sep M H0 G0 G H O) {q : Addr} (n : H q = none) : H0 q = none := by
  cases e : H0 q with
  | none => rfl
  | some o =>
    by_cases h : q ∈ M
    · exact absurd n (S.pm q h)
    · rw [S.base q o e h] at n
      cases n
theorem Sep.same (S : Sep M H0 G0 G H O) (e : Same H H') : Sep M H0 G0 G H' O :=
  ⟨fun b o h n => e b o (S.base b o h n), fun a ha => same_ne e (S.pm a ha), S.sG.trans e, S.g0, S.gn, fun a ha => ⟨(S.ow a ha).1, same_ne e (S.ow a ha).2.1, (S.ow a ha).2.2⟩⟩
theorem Sep.gfree (S : Sep M H0 G0 G H O) {q : Addr} (n : H q = none) : G q = none := by
  cases e : G q with
  | none => rfl
  | some o => rw [S.sG q o e] at n; cases n
theorem Sep.new (S : Sep M H0 G0 G H O) (n : H p = none) (e : Same H H') (h : H' p = some o) (hm : H0 p = none) : Sep M H0 G0 G H' (p :: O) := by
  have S1 := S.same e
  refine ⟨S1.base, S1.pm, S1.sG, S1.g0, S1.gn, fun a ha => ?_⟩
  cases ha with
  | head => exact ⟨S.gfree n, some_ne h, .inr hm⟩
  | tail _ ha => exact S1.ow a ha
theorem Sep.grow (S : Sep M H0 G0 G H O) (n : H p = none) (e : Same H H') (h : H' p = some o) (hm : H0 p = none) : ∃ G', Same G G' ∧ G' p = some o ∧ Sep M H0 G0 G' H' O := by
  have S1 := S.same e
  have ng := S.gfree n
  refine ⟨upd G p o, fun b u q => by rw [upd_ne (ne_of_none q ng)]; exact q, upd_same, S1.base, S1.pm, fun b u q => ?_, fun b u q => ?_, fun b hb gb => ?_, fun a ha => ?_⟩
  · by_cases z : b = p
    · subst z
      rw [upd_same] at q
      exact q ▸ h
    · rw [upd_ne z] at q
      exact S1.sG b u q
  · have := S.g0 b u q
    rw [upd_ne (ne_of_none this ng)]
    exact this
  · by_cases z : b = p
    · subst z
      exact absurd hm hb
    · rw [upd_ne z]
      exact S.gn b hb gb
  · have hne : a ≠ p := fun z => (S.ow a ha).2.1 (by rw [z]; exact n)
    rw [upd_ne hne]
    exact S1.ow a ha
theorem Sep.mut (S : Sep M H0 G0 G H O) {L : List Addr} (x : SameXs L H H') (hL : ∀ a ∈ L, a ∈ O) (hs : ∀ a ∈ L, H' a ≠ none) : Sep M H0 G0 G H' O := by
  have keep : ∀ a, H a ≠ none → H' a ≠ none := fun a h => by
    by_cases hb : a ∈ L
    · exact hs a hb
    · cases q : H a with
      | none => exact absurd q h
      | some o => exact some_ne (x a o q hb)
  refine ⟨fun b o e n => ?_, fun a ha => keep a (S.pm a ha), fun b o e => ?_, S.g0, S.gn, fun a ha => ⟨(S.ow a ha).1, keep a (S.ow a ha).2.1, (S.ow a ha).2.2⟩⟩
  · refine x b o (S.base b o e n) fun hb => ?_
    rcases (S.ow b (hL b hb)).2.2 with z | z
    · exact n z
    · rw [e] at z; cases z
  · refine x b o (S.sG b o e) fun hb => ?_
    have := (S.ow b (hL b hb)).1
    rw [e] at this
    cases this
theorem Sep.mut1 (S : Sep M H0 G0 G H O) (x : SameX m H H') (hm : m ∈ O) (h : H' m = some o) : Sep M H0 G0 G H' O :=
  S.mut (SameXs.of x) (all_cons hm all_nil) (all_cons (some_ne h) all_nil)
theorem Sep.sub (S : Sep M H0 G0 G H O) {O' : List Addr} (h : ∀ a ∈ O', a ∈ O) : Sep M H0 G0 G H O' := ⟨S.base, S.pm, S.sG, S.g0, S.gn, fun a ha => S.ow a (h a ha)⟩
/-- what was owned and is to stay as it is from now on -/
theorem Sep.freeze (S : Sep M H0 G0 G H O) {O' : List Addr} (hp : p ∈ O) (h : H p = some o) (hm : H0 p = none) (hO : ∀ a ∈ O', a ∈ O ∧ a ≠ p) : ∃ G', Same G G' ∧ G' p = some o ∧ Sep M H0 G0 G' H O' := by
  have ng := (S.ow p hp).1
  refine ⟨upd G p o, fun b u q => by rw [upd_ne (ne_of_none q ng)]; exact q, upd_same, S.base, S.pm, fun b u q => ?_, fun b u q => ?_, fun b hb gb => ?_, fun a ha => ?_⟩
  · by_cases z : b = p
    · subst z
      rw [upd_same] at q
      exact q ▸ h
    · rw [upd_ne z] at q
      exact S.sG b u q
  · have := S.g0 b u q
    rw [upd_ne (ne_of_none this ng)]
    exact this
  · by_cases z : b = p
    · subst z
      exact absurd hm hb
    · rw [upd_ne z]
      exact S.gn b hb gb
  · rw [upd_ne (hO a ha).2]
    exact S.ow a (hO a ha).1
/-- a callee that hands on data in a stable heap of its own -/
theorem Sep.step (S : Sep M H0 G0 G H O) {G' : Hp} (e : Same H H') (eG : Same G G') (sG : Same G' H') (hn : ∀ b, H b ≠ none → G b = none → G' b = none) : Sep M H0 G0 G' H' O := by
  have S1 := S.same e
  refine ⟨S1.base, S1.pm, sG, S.g0.trans eG, fun b hb gb => ?_, fun a ha => ⟨hn a (S.ow a ha).2.1 (S.ow a ha).1, (S1.ow a ha).2⟩⟩
  refine hn b (fun z => ?_) (S.gn b hb gb)
  exact hb (S.free z)
theorem Sep.hid (S : Sep M H0 G0 G H O) {L : List Addr} (h : ∀ a ∈ L, a ∈ O) : Same G (hideL L H) := fun b o e => by
  rw [hideL_out fun z => by
    have := (S.ow b (h b z)).1
    rw [e] at this
    cases this]
  exact S.sG b o e
end
end Vx

namespace Vx
open PySem PySem.Spec PyProof.Rows L2
/-! ### lists of plain things (f : V.int, V.bl, V.str) -/
section
variable {α : Type} {f : α → V} {H : Hp} {p : Addr}
theorem cat_map {xs ys : List α} (h : H p = some (.lst (xs.map f ++ ys.map f))) : H p = some (.lst ((xs ++ ys).map f)) := by
  rw [List.map_append]; exact h
theorem snoc_map {xs : List α} {y : α} (h : H p = some (.lst (xs.map f ++ [f y]))) : H p = some (.lst ((xs ++ [y]).map f)) := by
  rw [List.map_append]; exact h
def repL (xs : List α) (k : Int) : List α := (List.replicate k.toNat xs).flatten
theorem rep_map {xs : List α} {k : Int} (h : H p = some (.lst (List.replicate k.toNat (xs.map f)).flatten)) : H p = some (.lst ((repL xs k).map f)) := by
  rw [h]
  unfold repL
  rw [List.map_flatten, List.map_replicate]
def cutL (xs : List α) (lo hi : Option Int) : List α := (xs.drop (HT.sIx xs.length 0 lo)).take (HT.sIx xs.length xs.length hi - HT.sIx xs.length 0 lo)
theorem cut_map {xs : List α} {lo hi : Option Int} (h : H p = some (.lst (cutV (xs.map f) lo hi))) : H p = some (.lst ((cutL xs lo hi).map f)) := by
  rw [h]
  unfold cutV cutL
  rw [List.length_map, List.map_take, List.map_drop]
theorem cast_map {xs ys : List α} (h : H p = some (.lst (xs.map f))) (e : xs = ys) : H p = some (.lst (ys.map f)) := e ▸ h
theorem drop_map {xs : List α} (h : H p = some (.lst (xs.map f).dropLast)) : H p = some (.lst (xs.dropLast.map f)) := by
  rw [h, List.map_dropLast]
theorem ixN_some {n : Nat} {k : Int} (h : -(n : Int) ≤ k ∧ k < n) : ∃ j, ixN n k = some j ∧ j < n := by
  unfold ixN
  by_cases h0 : 0 ≤ k
  · exact ⟨k.toNat, by rw [if_pos h0, if_pos h.2], by omega⟩
  · exact ⟨(k + n).toNat, by rw [if_neg h0, if_pos h.1], by omega⟩
def itD [Inhabited α] (xs : List α) (k : Int) : α := (atI xs k).getD default
theorem atI_map [Inhabited α] {xs : List α} {k : Int} (h : -(xs.length : Int) ≤ k ∧ k < xs.length) : atI (xs.map f) k = some (f (itD xs k)) := by
  obtain ⟨j, e, hj⟩ := ixN_some h
  unfold itD atI
  rw [List.length_map, e]
  show (xs.map f)[j]? = some (f ((xs[j]?).getD default))
  rw [List.getElem?_map, List.getElem?_eq_getElem hj] <;> rfl
def setL (xs : List α) (k : Int) (y : α) : List α := xs.set ((ixN xs.length k).getD 0) y
theorem ixN_map {xs : List α} {k : Int} (h : -(xs.length : Int) ≤ k ∧ k < xs.length) : ixN (xs.map f).length k = some ((ixN xs.length k).getD 0) := by
  obtain ⟨j, e, hj⟩ := ixN_some h
  rw [List.length_map, e] <;> rfl
theorem set_map {xs : List α} {k : Int} {y : α} (h : H p = some (.lst ((xs.map f).set ((ixN xs.length k).getD 0) (f y)))) : H p = some (.lst ((setL xs k y).map f)) := by
  rw [h]
  unfold setL
  rw [List.map_set]
def lastD [Inhabited α] (xs : List α) : α := xs.getLastD default
theorem pop_map [Inhabited α] {xs : List α} (h : xs ≠ []) : (xs.map f)[(xs.map f).length - 1]? = some (f (lastD xs)) := by
  rw [← List.getLast?_eq_getElem?, List.getLast?_map]
  unfold lastD
  cases e : xs.getLast? with
  | none => exact absurd (List.getLast?_eq_none_iff.mp e) h
  | some y =>
    rw [List.getLastD_eq_getLast?, e] <;> rfl
end
/-! ### lists of data -/
section
variable {α β : Type} {f : α → PyData} {g : β → PyData} {G : Hp} {vs ws : List V} {xs ys : List α}
theorem app_map (a : RpAll G vs (xs.map f)) (b : RpAll G ws (ys.map f)) : RpAll G (vs ++ ws) ((xs ++ ys).map f) := by
  rw [List.map_append]; exact a.append b
theorem one_map {v : V} {y : α} (a : RpAll G vs (xs.map f)) (b : Rp G v (f y)) : RpAll G (vs ++ [v]) ((xs ++ [y]).map f) := by
  rw [List.map_append]; exact a.append (.one b)
theorem rep_all (k : Int) (a : RpAll G vs (xs.map f)) : RpAll G (List.replicate k.toNat vs).flatten ((repL xs k).map f) := by
  unfold repL
  rw [List.map_flatten, List.map_replicate]
  exact a.rep _
theorem cut_all (lo hi : Option Int) (a : RpAll G vs (xs.map f)) : RpAll G (cutV vs lo hi) ((cutL xs lo hi).map f) := by
  unfold cutV cutL
  rw [a.len, List.length_map, List.map_take, List.map_drop]
  exact (a.drop _).take _
theorem rp_cast {v : V} {d e : PyData} (r : Rp G v d) (h : d = e) : Rp G v e := h ▸ r
theorem comp_listD {i : Nat} {x : α} {y : β} {v : V} {h : α → β} (hi : xs[i]? = some x) (a : RpAll G vs (((xs.take i).map h).map g)) (r : Rp G v (g y)) (e : h x = y) : RpAll G (vs ++ [v]) (((xs.take (i + 1)).map h).map g) := by
  rw [take_succ_get hi, List.map_append, List.map_append]
  exact a.append (.one (e ▸ r))
theorem comp_rangeD {i : Nat} {y : β} {v : V} {h : Nat → β} (a : RpAll G vs (((List.range i).map h).map g)) (r : Rp G v (g y)) (e : h i = y) : RpAll G (vs ++ [v]) (((List.range (i + 1)).map h).map g) := by
  rw [List.range_succ, List.map_append, List.map_append]
  exact a.append (.one (e ▸ r))
theorem comp_doneD {n : Nat} {h : List α → List β} (hl : n = xs.length) (a : RpAll G vs ((h (xs.take n)).map g)) : RpAll G vs ((h xs).map g) := by
  rw [hl, List.take_length] at a
  exact a
theorem comp_listFD {i : Nat} {x : α} {y : β} {v : V} {h : α → β} {q : α → Bool} (hi : xs[i]? = some x) (hq : q x = true) (a : RpAll G vs ((((xs.take i).filter q).map h).map g)) (r : Rp G v (g y)) (e : h x = y) : RpAll G (vs ++ [v]) ((((xs.take (i + 1)).filter q).map h).map g) := by
  rw [take_succ_get hi, List.filter_append, List.filter_cons, if_pos hq, List.map_append, List.map_append]
  exact a.append (.one (e ▸ r))
theorem skip_listD {i : Nat} {x : α} {h : α → β} {q : α → Bool} (hi : xs[i]? = some x) (hq : q x = false) (a : RpAll G vs ((((xs.take i).filter q).map h).map g)) : RpAll G vs ((((xs.take (i + 1)).filter q).map h).map g) := by
  rw [take_succ_get hi, List.filter_append, List.filter_cons, if_neg (by rw [hq]; decide), List.filter_nil, List.append_nil]
  exact a
end
section
variable {α β : Type} {f : β → V} {H : Hp} {D : Addr} {xs : List α}
theorem compM_list {i : Nat} {x : α} {y : β} {h : α → β} (hi : xs[i]? = some x) (a : H D = some (.lst (((xs.take i).map h).map f ++ [f y]))) (e : h x = y) : H D = some (.lst (((xs.take (i + 1)).map h).map f)) := by
  rw [a, ← e, take_succ_get hi, List.map_append, List.map_append] <;> rfl
theorem compM_range {i : Nat} {y : β} {h : Nat → β} (a : H D = some (.lst (((List.range i).map h).map f ++ [f y]))) (e : h i = y) : H D = some (.lst (((List.range (i + 1)).map h).map f)) := by
  rw [a, ← e, List.range_succ, List.map_append, List.map_append] <;> rfl
theorem compM_done {n : Nat} {h : List α → List β} (hl : n = xs.length) (a : H D = some (.lst ((h (xs.take n)).map f))) : H D = some (.lst ((h xs).map f)) := by
  rw [hl, List.take_length] at a
  exact a
theorem compM_listF {i : Nat} {x : α} {y : β} {h : α → β} {q : α → Bool} (hi : xs[i]? = some x) (hq : q x = true) (a : H D = some (.lst ((((xs.take i).filter q).map h).map f ++ [f y]))) (e : h x = y) : H D = some (.lst ((((xs.take (i + 1)).filter q).map h).map f)) := by
  rw [a, ← e, take_succ_get hi, List.filter_append, List.filter_cons, if_pos hq, List.map_append, List.map_append] <;> rfl
theorem skipM_list {i : Nat} {x : α} {h : α → β} {q : α → Bool} (hi : xs[i]? = some x) (hq : q x = false) (a : H D = some (.lst ((((xs.take i).filter q).map h).map f))) : H D = some (.lst ((((xs.take (i + 1)).filter q).map h).map f)) := by
  rw [a, take_succ_get hi, List.filter_append, List.filter_cons, if_neg (by rw [hq]; decide), List.filter_nil, List.append_nil]
theorem compM_rangeF {i : Nat} {y : β} {h : Nat → β} {q : Nat → Bool} (hq : q i = true) (a : H D = some (.lst ((((List.range i).filter q).map h).map f ++ [f y]))) (e : h i = y) : H D = some (.lst ((((List.range (i + 1)).filter q).map h).map f)) := by
  rw [a, ← e, List.range_succ, List.filter_append, List.filter_cons, if_pos hq, List.map_append, List.map_append] <;> rfl
theorem skipM_range {i : Nat} {h : Nat → β} {q : Nat → Bool} (hq : q i = false) (a : H D = some (.lst ((((List.range i).filter q).map h).map f))) : H D = some (.lst ((((List.range (i + 1)).filter q).map h).map f)) := by
  rw [a, List.range_succ, List.filter_append, List.filter_cons, if_neg (by rw [hq]; decide), List.filter_nil, List.append_nil]
end
/-! ### more rules -/
section
variable {X : Cx} {K : PySem.W.Frag}
theorem ix_tupK (hK : X.K = K := by rfl) : IxR X (rIxT K) := hK ▸ ix_tup
def rLenLK (K : PySem.W.Frag) : List V → Hp → VK → Prop := fun xs H Q => ∃ (p : Addr) (vs : List V) (n : Nat), xs = [.ref p] ∧ SqL K H p vs ∧ vs.length = n ∧ Q (.int (n : Int)) H
theorem call_lenLK (hK : X.K = K := by rfl) : CallR X (.builtin "len") (rLenLK K) := by
  subst hK
  intro pins s σ H xs us Q I r h
  obtain ⟨p, vs, n, rfl, hs, hn, q⟩ := h
  exact call_len_seq pins s σ H _ us Q I r ⟨p, _, rfl, Or.inl hs, by rw [hn]; exact q⟩
def rListLK (K : PySem.W.Frag) : List V → Hp → VK → Prop := fun xs H Q => ∃ (p : Addr) (vs : List V), xs = [.ref p] ∧ SqL K H p vs ∧ ∀ l, H l = none → Q (.ref l) (upd H l (.lst vs))
theorem call_listLK (hK : X.K = K := by rfl) : CallR X (.type "list") (rListLK K) := by
  subst hK
  intro pins s σ H xs us Q I r h
  obtain ⟨p, vs, rfl, hs, q⟩ := h
  exact call_list_of pins s σ H _ us Q I r ⟨p, _, rfl, Or.inl hs, q⟩
theorem cr_anyK (hc : X.calm = true) (hK : X.K = K := by rfl) : CallR X (.builtin "any") (rAny K) := hK ▸ cr_any hc
theorem cr_allK (hc : X.calm = true) (hK : X.K = K := by rfl) : CallR X (.builtin "all") (rAll K) := hK ▸ cr_all hc
theorem pi_tupK {tg l : Expr} {tl : TE} (hl : PE X l tl) (hK : X.K = K := by rfl) : PI X tg l (iTup K tl) := hK ▸ pi_tup hl
theorem pip {op : Operator} {r : R2} (h : OpR X (inplaceOp op) r) : PIp X op r := fun pins s σ H x y v u Q I rx ry q => h pins s σ H x y v u Q I rx ry q
/-- an item at a place from 0 on, by itself (ahead of o[i] op= e) -/
def rIxP (K : PySem.W.Frag) : R2 := fun x y H Q => ∃ (p : Addr) (xs : List V) (k : Int) (v : V), x = .ref p ∧ y = .int k ∧ SqL K H p xs ∧ 0 ≤ k ∧ k < 2 ^ 62 ∧ atI xs k = some v ∧ Q v H
theorem pget_list (hK : X.K = K := by rfl) : PGet X (rIxP K) := by
  subst hK
  intro pins s σ H o i ov iv Q I ro ri h
  obtain ⟨p, xs, k, v, rfl, rfl, hq, h0, h62, ha, q⟩ := h
  cases ro
  obtain ⟨t, rfl⟩ := ri
  obtain ⟨its, r, pl, hz⟩ := I.list hq
  obtain ⟨j, h1, h2, h3, h4, h5⟩ := atI_get ha
  obtain ⟨w, ew, rw'⟩ := r.get h2
  have hj : k.toNat = j := by
    rw [seqIndex_of h0 h5] at h1
    exact Option.some.inj h1
  exact getItem_listL pl.isList h0 (by omega) (by rw [hj]; simpa using ew) ⟨v, H, I, rw', q⟩
theorem tru_map {α : Type} [DecidableEq α] {f : α → V} {xs : List α} : (!decide (xs = [])) = !(xs.map f).isEmpty := by
  cases xs <;> simp
end
end Vx

namespace Vx
open PySem PySem.Spec PyProof.Rows L2
/-! ### objects -/
section
variable {M : List Addr} {H0 G0 G H H' : Hp} {O : List Addr} {p m : Addr} {o : HO}
theorem gen_obj {x dx : Addr} {o1 o2 : HO} (nx : H x = none) (nd : H dx = none) (ne : dx ≠ x) (h : upd (upd H dx o1) x o2 = H') : Same H H' ∧ H' x = some o2 := by
  subst h
  exact ⟨fun b u e => by rw [upd_ne (ne_of_none e nx), upd_ne (ne_of_none e nd)]; exact e, upd_same⟩
theorem sameX_of {m : Addr} (x : SameXs [m] H H') : SameX m H H' := fun b o e n => x b o e (by simpa using n)
theorem g_ne {a b : Addr} (h : G a = some o) (S : Sep M H0 G0 G H O) (hb : b ∈ O) : a ≠ b := fun z => by
  have := (S.ow b hb).1
  rw [← z, h] at this
  cases this
/-- an object whose making has laid some lists -/
theorem Sep.mutnew (S : Sep M H0 G0 G H O) {L : List Addr} (x : SameXs L H H') (hL : ∀ a ∈ L, a ∈ O) (hs : ∀ a ∈ L, H' a ≠ none) (hn : H p = none) (hp : H' p ≠ none) (h0 : H0 p = none) : Sep M H0 G0 G H' (p :: O) := by
  have S1 := S.mut x hL hs
  refine ⟨S1.base, S1.pm, S1.sG, S1.g0, S1.gn, all_cons ⟨S.gfree hn, hp, .inr h0⟩ S1.ow⟩
theorem Sep.init (S : Sep M H0 G0 G H O) (x : SameX m H H') (hm : m ∈ O) (h : H' m = some o) (L : List Addr) (hL : ∀ a ∈ L, H a = none ∧ H' a ≠ none ∧ H0 a = none) : Sep M H0 G0 G H' (L ++ O) := by
  have S1 := S.mut1 x hm h
  refine ⟨S1.base, S1.pm, S1.sG, S1.g0, S1.gn, fun a ha => ?_⟩
  rcases List.mem_append.mp ha with z | z
  · obtain ⟨h1, h2, h3⟩ := hL a z
    exact ⟨S.gfree h1, h2, .inr h3⟩
  · exact S1.ow a z
end
section
variable {P : Program} {w : World} {K : PySem.W.Frag} {mg : Str → Option Value} {base : Heap}
structure MethIn (K : PySem.W.Frag) (C : Addr) (q m : Str) (st : Stmt) (ps : List Str) : Prop where
  ex : ∃ (f : Addr) (fd : FuncData), Fun K m q st f fd ∧ Meth K C m f ∧ Binds K fd ps []
structure PropIn (K : PySem.W.Frag) (C : Addr) (q m : Str) (st : Stmt) (ps : List Str) : Prop where
  ex : ∃ (r f : Addr) (fd : FuncData), Fun K m q st f fd ∧ PropOf K C m r f ∧ Binds K fd ps []
structure InitIn (K : PySem.W.Frag) (mg : Str → Option Value) (C : Addr) (cn q : Str) (st : Stmt) (ps : List Str) : Prop where
  ex : ∃ (f : Addr) (fd : FuncData), Fun K "__init__" q st f fd ∧ Mk K C f ∧ mg cn = some (.ref C) ∧ Binds K fd ps []
structure MetC (P : Program) (w : World) (K : PySem.W.Frag) (mg : Str → Option Value) (base : Heap) (k : Nat) (C : Addr) (m : Str) (sp : Sp) : Prop where
  ex : ∃ (f : Addr) (fd : FuncData) (ps : List Str), Cls K C ∧ Meth K C m f ∧ FnOk P w K mg base CX0 k f fd ps sp ∧ Binds K fd ps []
structure PropC (P : Program) (w : World) (K : PySem.W.Frag) (mg : Str → Option Value) (base : Heap) (k : Nat) (C : Addr) (m : Str) (sp : Sp) : Prop where
  ex : ∃ (q f : Addr) (fd : FuncData) (ps : List Str), Cls K C ∧ PropOf K C m q f ∧ FnOk P w K mg base CX0 k f fd ps sp ∧ Binds K fd ps []
structure MakC (P : Program) (w : World) (K : PySem.W.Frag) (mg : Str → Option Value) (base : Heap) (k : Nat) (cn : Str) (C : Addr) (sp : Sp) : Prop where
  ex : ∃ (f : Addr) (fd : FuncData) (ps : List Str), Mk K C f ∧ FnOk P w K mg base CX0 k f fd ps sp ∧ mg cn = some (.ref C) ∧ Binds K fd ps []
abbrev Body (P : Program) (w : World) (K : PySem.W.Frag) (mg : Str → Option Value) (base : Heap) (x : Str) (st : Stmt) (N : List Str) (k : Nat) (sp : Sp) : Prop :=
  ∀ (f : Addr) (cdv : Value) (A : Around) (outer : List Env) (s : Shared) (H : Hp) (vs : List V) (Q : VK) (E : XK), Room k (A.deeper (envOfC x (defScope st) s.heap.objs.size f cdv)) → sp vs H Q E →
    ∃ t, PSs (cxOf CX0 P w K mg base N x (defScope st) f cdv A outer s H E).nox (defBody st) t ∧ t { nx := fun _ H' => Q .non H', rt := Q } (start N vs) H
theorem MethIn.ok {C : Addr} {q m : Str} {st : Stmt} {N ps : List Str} {k : Nat} {sp : Sp} (D : MethIn K C q m st ps) (c : Cls K C) (S : FnScope N ps (defScope st)) (len : ∀ vs H Q E, sp vs H Q E → vs.length = ps.length)
    (hbody : Body P w K mg base q st N k sp) : MetC P w K mg base (k + 1) C m sp := by
  obtain ⟨f, fd, F, me, b⟩ := D.ex
  exact ⟨f, fd, ps, c, me, F.ok S len (fun cdv A outer s H vs Q E hr h => hbody f cdv A outer s H vs Q E hr h), b⟩
theorem PropIn.ok {C : Addr} {q m : Str} {st : Stmt} {N ps : List Str} {k : Nat} {sp : Sp} (D : PropIn K C q m st ps) (c : Cls K C) (S : FnScope N ps (defScope st)) (len : ∀ vs H Q E, sp vs H Q E → vs.length = ps.length)
    (hbody : Body P w K mg base q st N k sp) : PropC P w K mg base (k + 1) C m sp := by
  obtain ⟨r, f, fd, F, me, b⟩ := D.ex
  exact ⟨r, f, fd, ps, c, me, F.ok S len (fun cdv A outer s H vs Q E hr h => hbody f cdv A outer s H vs Q E hr h), b⟩
theorem InitIn.ok {C : Addr} {cn q : Str} {st : Stmt} {N ps : List Str} {k : Nat} {sp : Sp} (D : InitIn K mg C cn q st ps) (S : FnScope N ps (defScope st)) (len : ∀ vs H Q E, sp vs H Q E → vs.length = ps.length)
    (hbody : Body P w K mg base q st N k sp) : MakC P w K mg base (k + 1) cn C sp := by
  obtain ⟨f, fd, F, me, hm, b⟩ := D.ex
  exact ⟨f, fd, ps, me, F.ok S len (fun cdv A outer s H vs Q E hr h => hbody f cdv A outer s H vs Q E hr h), hm, b⟩
end
section
variable {X : Cx} {k j : Nat} {C : Addr} {x m : Str} {sp : Sp} {p pos apos : Pos} {e o : Expr} {es : List Expr} {ta : TE} {t : TA}
theorem vx_call0 (c : Cal X.prog X.w X.K X.mg X.base k x sp) (hr : Room j X.A) (hk : k ≤ j) (hg : Gl X x) (hdb : (x == ("__debug__" : Str)) = false := by decide) : PE X (.Call (.Name x p) [] [] pos) (tCall sp [] E0 tNil) := by
  obtain ⟨f, fd, ps, F, hm, kp, b⟩ := c.ex
  exact pe_call0 F (hr.mono hk) hg hm kp b .nil pass0 hdb
theorem vx_make (c : MakC X.prog X.w X.K X.mg X.base k x C sp) (hr : Room j X.A) (hk : k + 1 ≤ j) (hg : Gl X x) (ha : PA X (e :: es) t)
    (hdb : (x == ("__debug__" : Str)) = false := by decide) (he : starEach (e :: es) X.env = (false, eval e X.env) :: starEach es X.env := by rfl) (hpl : (backTo pos (starEach es X.env)).any (·.1) = false := by rfl) :
    PE X (.Call (.Name x p) (e :: es) [] pos) (tMake C sp [] E0 t) := by
  obtain ⟨f, fd, ps, M, F, hm, b⟩ := c.ex
  exact pe_make M F (hr.mono hk) hg hm b .nil pass0 ha hdb he hpl
theorem vx_make0 (c : MakC X.prog X.w X.K X.mg X.base k x C sp) (hr : Room j X.A) (hk : k + 1 ≤ j) (hg : Gl X x) (hdb : (x == ("__debug__" : Str)) = false := by decide) :
    PE X (.Call (.Name x p) [] [] pos) (tMake C sp [] E0 tNil) := by
  obtain ⟨f, fd, ps, M, F, hm, b⟩ := c.ex
  exact pe_make0 M F (hr.mono hk) hg hm b .nil pass0 hdb
theorem vx_meth {pl : Sem Bool} (c : MetC X.prog X.w X.K X.mg X.base k C m sp) (hr : Room j X.A) (hk : k ≤ j) (he : PE X o ta) (ha : PA X (e :: es) t)
    (hst : starEach (e :: es) X.env = (false, eval e X.env) :: starEach es X.env := by rfl) (hpl : (backTo pos (starEach es X.env)).any (·.1) = false := by rfl)
    (ht : eval (.Call (.Attribute o m apos) (e :: es) [] pos) X.env = (do
      let ov ← eval o X.env
      standAt apos.atName
      let (f, first) ← holding [ov] (getMethod ov m pl)
      callWith pos f first (backTo pos (starEach (e :: es) X.env)) (backToKw pos (keywordEach [] X.env))) := by rfl) :
    PE X (.Call (.Attribute o m apos) (e :: es) [] pos) (tMeth C m sp [] E0 ta t) := by
  obtain ⟨f, fd, ps, hc, hm, F, b⟩ := c.ex
  exact pe_meth he hc hm F (hr.mono hk) b .nil pass0 ha hst hpl ht
theorem vx_meth0 {pl : Sem Bool} (c : MetC X.prog X.w X.K X.mg X.base k C m sp) (hr : Room j X.A) (hk : k ≤ j) (he : PE X o ta)
    (ht : eval (.Call (.Attribute o m apos) [] [] pos) X.env = (do
      let ov ← eval o X.env
      standAt apos.atName
      let (f, first) ← holding [ov] (getMethod ov m pl)
      callWith pos f first (backTo pos (starEach [] X.env)) (backToKw pos (keywordEach [] X.env))) := by rfl) :
    PE X (.Call (.Attribute o m apos) [] [] pos) (tMeth C m sp [] E0 ta tNil) := by
  obtain ⟨f, fd, ps, hc, hm, F, b⟩ := c.ex
  exact pe_meth0 he hc hm F (hr.mono hk) b .nil pass0 ht
theorem vx_prop (c : PropC X.prog X.w X.K X.mg X.base k C m sp) (hr : Room j X.A) (hk : k + 1 ≤ j) (he : PE X o ta) (hab : attributeBase o m X.env (eval o X.env) = eval o X.env) : PE X (.Attribute o m pos) (tProp C sp [] E0 ta) := by
  obtain ⟨q, f, fd, ps, hc, hp, F, b⟩ := c.ex
  exact pe_prop he hc hp F (hr.mono hk) b .nil pass0 hab
end
theorem iteBNT {b : Bool} {A B : Prop} (h : b = false) (k : A) : if (!b) = true then A else B := by rw [h]; exact iteT k
theorem iteNN {b : Bool} {A B : Prop} (h : if b = true then A else B) : if (!!b) = true then A else B := by rw [Bool.not_not]; exact h
theorem iteBNF {b : Bool} {A B : Prop} (h : b = true) (k : B) : if (!b) = true then A else B := by rw [h]; exact iteF k
theorem shl_side {i j : Int} (h0 : 0 ≤ j) (h1 : j ≤ 4096) (h2 : -(2 ^ 4096) < i) (h3 : i < 2 ^ 4096) : CShl i j := by
  obtain ⟨k, rfl⟩ := Int.eq_ofNat_of_zero_le h0
  exact shl_ok (n := 4096) (by omega) (by omega)
end Vx

namespace Vx
open PySem PySem.Spec PyProof.Rows L2
section
variable {X : Cx} {K : PySem.W.Frag}
theorem fldK {e : Expr} {f : Str} {pos : Pos} {ta : TE} (he : PE X e ta) (hb : attributeBase e f X.env (eval e X.env) = eval e X.env := by rfl) (hK : X.K = K := by rfl) : PE X (.Attribute e f pos) (tFld K ta f) := hK ▸ pe_fld he hb
theorem pg_tupK {es : List Expr} {k : Nat} {t : TGs} {n : Nat} {pos : Pos} (h : PGs X es t) (hc : X.calm = true := by rfl)
    (hn : (assignEach es X.env).length = n := by rfl) (hst : (assignEach es X.env).findIdx? (·.1) = none := by rfl) (hK : X.K = K := by rfl) : PG X (.Tuple es k pos) (gTup K n t) := hK ▸ pg_tup hc h hn hst
end
end Vx

namespace Vx
open PySem PySem.Spec PyProof.Rows L2
section
variable {α β : Type} {f : α → PyData} {g : β → PyData} {fv : α → V} {gv : β → V} {G : Hp} {vs ws : List V} {xs : List α} {ys : List β}
theorem big1 {n : Nat} (h : n ≤ 1000000) : n ≤ sizeLine := smallE h
theorem cat_len (a : RpAll G vs (xs.map f)) (b : RpAll G ws (ys.map g)) (h : xs.length + ys.length ≤ 1000000) : vs.length + ws.length ≤ sizeLine := by
  rw [a.len, b.len, List.length_map, List.length_map]; exact smallE h
theorem cat_lenM (h : xs.length + ys.length ≤ 1000000) : (xs.map fv).length + (ys.map gv).length ≤ sizeLine := by
  rw [List.length_map, List.length_map]; exact smallE h
theorem rep_len {k : Nat} (a : RpAll G vs (xs.map f)) (h : xs.length * k ≤ 1000000) : vs.length * k ≤ sizeLine := by
  rw [a.len, List.length_map]; exact smallE h
theorem rep_lenM {k : Nat} (h : xs.length * k ≤ 1000000) : (xs.map fv).length * k ≤ sizeLine := by
  rw [List.length_map]; exact smallE h
theorem app_len (a : RpAll G vs (xs.map f)) (h : xs.length ≤ 1000000) : vs.length < sizeLine := by
  rw [a.len, List.length_map]; exact small h
theorem app_lenM (h : xs.length ≤ 1000000) : (xs.map fv).length < sizeLine := by
  rw [List.length_map]; exact small h
theorem cutL_len {α : Type} (xs : List α) (lo hi : Option Int) : (cutL xs lo hi).length ≤ xs.length := by
  unfold cutL
  rw [List.length_take, List.length_drop]
  omega
theorem repL_len {α : Type} (xs : List α) (k : Int) : (repL xs k).length = k.toNat * xs.length := by
  unfold repL
  simp
end
end Vx
/-! # third part: what a def computes, as a plain function with refusals -/
namespace Vx
open PySem PySem.Spec PyProof.Rows L2
inductive Rx (α : Type) where
  | ok (a : α)
  | er (e : Nat)
  | bad
def Rx.bind {α β : Type} (m : Rx α) (f : α → Rx β) : Rx β :=
  match m with
  | .ok a => f a
  | .er e => .er e
  | .bad => .bad
/-- what is wanted of an outcome -/
def cW {α : Type} (m : Rx α) (K : α → Prop) (E : Nat → Prop) : Prop :=
  match m with
  | .ok a => K a
  | .er e => E e
  | .bad => False
def grd {α : Type} (p : Prop) [Decidable p] (m : Rx α) : Rx α := if p then m else .bad
/-- within a comprehension nothing may be raised -/
def noEr {α : Type} (m : Rx α) : Rx α :=
  match m with
  | .ok a => .ok a
  | _ => .bad
/-- what the clause does not name may not come -/
def tryR {α β : Type} (m : Rx α) (cs : List Nat) (f : α → Rx β) (h : Nat → Rx β) : Rx β :=
  match m with
  | .ok a => f a
  | .er e => if e ∈ cs then h e else .bad
  | .bad => .bad
def bnd {α β : Type} (a : α) (f : α → Rx β) : Rx β := f a
inductive Lp (σ ρ : Type) where
  | go (s : σ)
  | bk (s : σ)
  | rt (r : ρ)
def Lp.aft {σ ρ τ : Type} (l : Lp σ ρ) (kr : ρ → Rx τ) (k : σ → Rx τ) : Rx τ :=
  match l with
  | .go s => k s
  | .bk s => k s
  | .rt r => kr r
def forS {σ α : Type} : List α → σ → (σ → α → Rx σ) → Rx σ
  | [], s, _ => .ok s
  | x :: r, s, f => (f s x).bind fun s' => forS r s' f
def forR {σ α ρ : Type} : List α → σ → (σ → α → Rx (Lp σ ρ)) → Rx (Lp σ ρ)
  | [], s, _ => .ok (.go s)
  | x :: r, s, f => (f s x).bind fun l =>
    match l with
    | .go s' => forR r s' f
    | .bk s' => .ok (.go s')
    | .rt v => .ok (.rt v)
def whileR {σ ρ : Type} : Nat → σ → (σ → Rx (Lp σ ρ)) → Rx (Lp σ ρ)
  | 0, _, _ => .bad
  | n + 1, s, f => (f s).bind fun l =>
    match l with
    | .go s' => whileR n s' f
    | .bk s' => .ok (.go s')
    | .rt v => .ok (.rt v)
def mapA {α β : Type} : List α → List β → (α → Rx β) → Rx (List β)
  | [], acc, _ => .ok acc
  | x :: r, acc, f => grd (acc.length ≤ 1000000) ((f x).bind fun y => mapA r (acc ++ [y]) f)
def mapF {α β : Type} : List α → List β → (α → Rx (Option β)) → Rx (List β)
  | [], acc, _ => .ok acc
  | x :: r, acc, f => grd (acc.length ≤ 1000000) ((f x).bind fun y =>
    match y with
    | some z => mapF r (acc ++ [z]) f
    | none => mapF r acc f)
section
variable {α β γ σ ρ τ : Type} {K : α → Prop} {E : Nat → Prop}
theorem cW_gen {m : Rx α} (h : cW m K E) : ∃ (K' : α → Prop) (E' : Nat → Prop), (∀ v, K' v → K v) ∧ (∀ e, E' e → E e) ∧ cW m K' E' := ⟨K, E, fun _ x => x, fun _ x => x, h⟩
theorem cW_grd {p : Prop} {dp : Decidable p} {m : Rx α} (h : cW (grd p m) K E) : p ∧ cW m K E := by
  unfold grd at h
  split at h
  · exact ⟨‹p›, h⟩
  · exact h.elim
theorem cW_pos {p : Prop} {dp : Decidable p} {a b : Rx α} (c : p) (h : cW (if p then a else b) K E) : cW a K E := by rwa [if_pos c] at h
theorem cW_neg {p : Prop} {dp : Decidable p} {a b : Rx α} (c : ¬ p) (h : cW (if p then a else b) K E) : cW b K E := by rwa [if_neg c] at h
theorem cW_call {m : Rx β} {f : β → Rx α} {K2 : β → Prop} {E2 : Nat → Prop} (h : cW (m.bind f) K E) (ho : ∀ v, cW (f v) K E → K2 v) (he : ∀ e, E e → E2 e) : cW m K2 E2 := by
  cases m with
  | ok a => exact ho a h
  | er e => exact he e h
  | bad => exact h
theorem cW_push {m : Rx β} {f : β → Rx α} (h : cW (m.bind f) K E) : ∃ K2 : β → Prop, (∀ v, K2 v → cW (f v) K E) ∧ cW m K2 E := ⟨fun v => cW (f v) K E, fun _ x => x, cW_call h (fun _ x => x) fun _ x => x⟩
theorem cW_name {m : Rx α} (h : cW m K E) : ∃ K' : α → Prop, (∀ v, K' v → K v) ∧ cW m K' E := ⟨K, fun _ x => x, h⟩
theorem cW_noEr {m : Rx α} (h : cW (noEr m) K E) : cW m K (fun _ => False) := by
  cases m with
  | ok a => exact h
  | er e => exact h
  | bad => exact h
theorem cW_try {m : Rx β} {cs : List Nat} {f : β → Rx α} {g : Nat → Rx α} {K2 : β → Prop} {E2 : Nat → Prop} (h : cW (tryR m cs f g) K E) (ho : ∀ v, cW (f v) K E → K2 v) (hc : ∀ e, e ∈ cs → cW (g e) K E → E2 e) : cW m K2 E2 := by
  cases m with
  | ok a => exact ho a h
  | er e =>
    have h2 : cW (if e ∈ cs then g e else .bad) K E := h
    by_cases q : e ∈ cs
    · exact hc e q (cW_pos q h2)
    · exact (cW_neg q h2).elim
  | bad => exact h
theorem cW_bnd {a : β} {f : β → Rx α} (h : cW (bnd a f) K E) : cW (f a) K E := h
theorem cW_ok {a : α} (h : cW (.ok a) K E) : K a := h
theorem cW_er {e : Nat} (h : cW (.er e : Rx α) K E) : E e := h
theorem cW_negB {b : Bool} {x y : Rx α} (c : b = false) (h : cW (if b = true then x else y) K E) : cW y K E := cW_neg (by rw [c]; decide) h
theorem cW_forS {xs : List β} {i : Nat} {x : β} {s : α} {f : α → β → Rx α} (hx : xs[i]? = some x) (h : cW (forS (xs.drop i) s f) K E) : cW (f s x) (fun s' => cW (forS (xs.drop (i + 1)) s' f) K E) E := by
  rw [List.drop_eq_getElem?_toList_append, hx] at h
  exact cW_call h (fun _ z => z) fun _ z => z
theorem cW_forS0 {xs : List β} {n : Nat} {s : α} {f : α → β → Rx α} (hn : n = xs.length) (h : cW (forS (xs.drop n) s f) K E) : K s := by
  subst hn
  rw [List.drop_length] at h
  exact h
theorem cW_forR {K : Lp σ ρ → Prop} {xs : List β} {i : Nat} {x : β} {s : σ} {f : σ → β → Rx (Lp σ ρ)} (hx : xs[i]? = some x) (h : cW (forR (xs.drop i) s f) K E) :
    cW (f s x) (fun l => match l with | .go s' => cW (forR (xs.drop (i + 1)) s' f) K E | .bk s' => K (.go s') | .rt v => K (.rt v)) E := by
  rw [List.drop_eq_getElem?_toList_append, hx] at h
  refine cW_call h (fun l z => ?_) fun _ z => z
  cases l with
  | go s' => exact z
  | bk s' => exact z
  | rt v => exact z
theorem cW_forR0 {K : Lp σ ρ → Prop} {xs : List β} {n : Nat} {s : σ} {f : σ → β → Rx (Lp σ ρ)} (hn : n = xs.length) (h : cW (forR (xs.drop n) s f) K E) : K (.go s) := by
  subst hn
  rw [List.drop_length] at h
  exact h
theorem cW_whileR {K : Lp σ ρ → Prop} {m : Nat} {s : σ} {f : σ → Rx (Lp σ ρ)} (h : cW (whileR m s f) K E) :
    ∃ n, m = n + 1 ∧ cW (f s) (fun l => match l with | .go s' => cW (whileR n s' f) K E | .bk s' => K (.go s') | .rt v => K (.rt v)) E := by
  cases m with
  | zero => exact h.elim
  | succ n =>
    refine ⟨n, rfl, cW_call h (fun l z => ?_) fun _ z => z⟩
    cases l with
    | go s' => exact z
    | bk s' => exact z
    | rt v => exact z
theorem cW_mapA {K : List α → Prop} {xs : List β} {acc : List α} {i : Nat} {x : β} {f : β → Rx α} (hx : xs[i]? = some x) (h : cW (mapA (xs.drop i) acc f) K E) :
    acc.length ≤ 1000000 ∧ cW (f x) (fun y => cW (mapA (xs.drop (i + 1)) (acc ++ [y]) f) K E) E := by
  rw [List.drop_eq_getElem?_toList_append, hx] at h
  obtain ⟨z, h⟩ := cW_grd h
  exact ⟨z, cW_call h (fun _ z => z) fun _ z => z⟩
theorem cW_mapA0 {K : List α → Prop} {xs : List β} {acc : List α} {n : Nat} {f : β → Rx α} (hn : n = xs.length) (h : cW (mapA (xs.drop n) acc f) K E) : K acc := by
  subst hn
  rw [List.drop_length] at h
  exact h
theorem cW_mapF {K : List α → Prop} {xs : List β} {acc : List α} {i : Nat} {x : β} {f : β → Rx (Option α)} (hx : xs[i]? = some x) (h : cW (mapF (xs.drop i) acc f) K E) :
    acc.length ≤ 1000000 ∧ cW (f x) (fun y => match y with | some z => cW (mapF (xs.drop (i + 1)) (acc ++ [z]) f) K E | none => cW (mapF (xs.drop (i + 1)) acc f) K E) E := by
  rw [List.drop_eq_getElem?_toList_append, hx] at h
  obtain ⟨z, h⟩ := cW_grd h
  refine ⟨z, cW_call h (fun y z => ?_) fun _ z => z⟩
  cases y with
  | none => exact z
  | some w => exact z
theorem cW_mapF0 {K : List α → Prop} {xs : List β} {acc : List α} {n : Nat} {f : β → Rx (Option α)} (hn : n = xs.length) (h : cW (mapF (xs.drop n) acc f) K E) : K acc := by
  subst hn
  rw [List.drop_length] at h
  exact h
end
/-- the numbers of a range -/
def rng (lo : Int) (n : Nat) : List Int := (List.range n).map fun (j : Nat) => lo + (j : Int)
theorem rng_get {lo : Int} {n i : Nat} (h : i < n) : (rng lo n)[i]? = some (lo + (i : Int)) := by
  unfold rng
  rw [List.getElem?_map, List.getElem?_range h] <;> rfl
theorem rng_len (lo : Int) (n : Nat) : (rng lo n).length = n := by
  unfold rng
  rw [List.length_map, List.length_range]

/-! ### calls that may raise -/
/-- what a call with n values and keywords ks gives the parameters -/
structure Bnd (K : PySem.W.Frag) (fd : FuncData) (ps : List Str) (n : Nat) (ks : List Str) (g : List V → List V → List V) : Prop where
  to : ∀ (s : Shared) (us ws : List Value) (vs zs : List V), K.In s.heap → vs.length = n → zs.length = ks.length → Vals vs us → Vals zs ws → ∃ vv : List Value, BindsTo s fd ⟨us, ks.zip ws⟩ (ps.zip vv) ∧ Vals (g vs zs) vv
theorem Bnd.of_kbn {K : PySem.W.Frag} {fd : FuncData} {ps ks : List Str} {n : Nat} {g : List Value → List Value → List Value} {gV : List V → List V → List V} (b : KBn K fd ps n ks g gV) : Bnd K fd ps n ks gV :=
  ⟨fun s us ws vs zs X l1 l2 r rz => ⟨g us ws, b.to s us ws X (r.length.symm.trans l1) (rz.length.symm.trans l2), b.rel r rz⟩⟩
theorem Bnd.all {K : PySem.W.Frag} {fd : FuncData} {ps ks : List Str} {n : Nat} {g : List V → List V → List V} (h : ∀ (us ws : List Value) (vs zs : List V), vs.length = n → zs.length = ks.length → Vals vs us → Vals zs ws →
    ∃ vv : List Value, bindArgs fd ⟨us, ks.zip ws⟩ = pure (ps.zip vv) ∧ Vals (g vs zs) vv) : Bnd K fd ps n ks g :=
  ⟨fun s us ws vs zs _ l1 l2 r rz => by
    obtain ⟨vv, e, q⟩ := h us ws vs zs l1 l2 r rz
    exact ⟨vv, BindsTo.of_eq e, q⟩⟩
abbrev Pat := Nat × List Str × (List V → List V → List V)
def Bnd1 (K : PySem.W.Frag) (fd : FuncData) (ps : List Str) (p : Pat) : Prop := Bnd K fd ps p.1 p.2.1 p.2.2
section
variable {P : Program} {w : World} {K : PySem.W.Frag} {mg : Str → Option Value} {base : Heap}
/-- a def of the top, with the ways it is called -/
structure DefX (K : PySem.W.Frag) (mg : Str → Option Value) (x : Str) (st : Stmt) (ps : List Str) (pats : List Pat) : Prop where
  ex : ∃ (f : Addr) (fd : FuncData) (dvs : List V) (kws : List (Str × V)), FunD K x x (defArgs st) (defBody st) (defScope st) dvs kws f fd ∧ mg x = some (.ref f) ∧ ∀ p ∈ pats, Bnd1 K fd ps p
structure CalX (P : Program) (w : World) (K : PySem.W.Frag) (mg : Str → Option Value) (base : Heap) (k : Nat) (x : Str) (sp : Sp) (pats : List Pat) : Prop where
  ex : ∃ (f : Addr) (fd : FuncData) (ps : List Str), FnOk P w K mg base (L2.CX P w) k f fd ps sp ∧ mg x = some (.ref f) ∧ PySem.W.keepIn K (.ref f) = true ∧ ∀ p ∈ pats, Bnd1 K fd ps p
abbrev BodyX (P : Program) (w : World) (K : PySem.W.Frag) (mg : Str → Option Value) (base : Heap) (x : Str) (st : Stmt) (N : List Str) (k : Nat) (sp : Sp) : Prop :=
  ∀ (f : Addr) (cdv : Value) (A : Around) (outer : List Env) (s : Shared) (H : Hp) (vs : List V) (Q : VK) (E : XK), Room k (A.deeper (envOfC x (defScope st) s.heap.objs.size f cdv)) → sp vs H Q E →
    ∃ t, PSs (cxOf (L2.CX P w) P w K mg base N x (defScope st) f cdv A outer s H E) (defBody st) t ∧ t { nx := fun _ H' => Q .non H', rt := Q } (start N vs) H
theorem DefX.ok {x : Str} {st : Stmt} {N ps : List Str} {pats : List Pat} {k : Nat} {sp : Sp} (D : DefX K mg x st ps pats) (S : FnScope N ps (defScope st)) (len : ∀ vs H Q E, sp vs H Q E → vs.length = ps.length)
    (hbody : BodyX P w K mg base x st N k sp) : CalX P w K mg base (k + 1) x sp pats := by
  obtain ⟨f, fd, dvs, kws, F, hm, b⟩ := D.ex
  exact ⟨f, fd, ps, F.ok S len (fun cdv A outer s H vs Q E hr h => hbody f cdv A outer s H vs Q E hr h), hm, F.kp, b⟩
end
section
variable {X : Cx} {k j n : Nat} {f : Addr} {fd : FuncData} {ps ks : List Str} {g : List V → List V → List V} {sp : Sp} {x : Str} {pos p : Pos} {e : Expr} {es : List Expr} {kws : List Keyword} {t tk : TA} {W : WX}
theorem run_X {pins : List (Addr × Obj)} {σ : L2.St} {H : Hp} {s : Shared} {Q : VK} {us ws : List Value} {vs zs : List V} (F : FnOk X.prog X.w X.K X.mg X.base (L2.CX X.prog X.w) k f fd ps sp) (hr : Room k X.A) (hb : Bnd X.K fd ps n ks g) (tkW : Takes X W)
    (I : Inv X pins σ H s) (r : Vals vs us) (rz : Vals zs ws) (l1 : vs.length = n) (l2 : zs.length = ks.length) (h : sp (g vs zs) H Q (WE W σ)) :
    wpAny (model X.prog X.w) X.A (call (.ref f) us (ks.zip ws)) (EP X pins σ Q) X.xe s := by
  obtain ⟨vv, b, r2⟩ := hb.to s us ws vs zs I.kIn l1 l2 r rz
  refine wpAny_call (codeAny_mono (F.run X.A X.stack s H ⟨us, ks.zip ws⟩ vv (g vs zs) Q (WE W σ) hr I.env0 b r2 h) fun rr s' hq => ?_)
  cases rr with
  | error er => exact passAt tkW σ pins H s er s' I hq
  | ok fl =>
    cases fl with
    | ret u => exact I.after hq
    | next => exact hq.elim
    | brk => exact hq.elim
    | cont => exact hq.elim
/-- f(e, .., k = v, ..) -/
def tCallX (n m : Nat) (sp : Sp) (g : List V → List V → List V) (W : WX) (t tk : TA) : TE := fun σ H Q => t σ H fun vs H1 => tk σ H1 fun zs H2 => vs.length = n ∧ zs.length = m ∧ sp (g vs zs) H2 Q (WE W σ)
theorem vx_callX {pats : List Pat} (c : CalX X.prog X.w X.K X.mg X.base k x sp pats) (pt : Pat) (hpt : pt ∈ pats) (hr : Room j X.A) (hk : k ≤ j) (tkW : Takes X W) (hg : Gl X x) (ha : PA X (e :: es) t) (hkw : PK X kws tk)
    (hall : (backToKw pos (keywordEach kws X.env)).all (·.1.isSome) = true := by rfl) (hks : (backToKw pos (keywordEach kws X.env)).filterMap (·.1) = pt.2.1 := by rfl)
    (hdb : (x == ("__debug__" : Str)) = false := by decide) (he : starEach (e :: es) X.env = (false, eval e X.env) :: starEach es X.env := by rfl)
    (hpl : ((backTo pos (starEach (e :: es) X.env)).any (·.1) || (backToKw pos (keywordEach kws X.env)).any (·.1.isNone)) = false := by rfl) :
    PE X (.Call (.Name x p) (e :: es) kws pos) (tCallX pt.1 pt.2.1.length sp pt.2.2 W t tk) := by
  obtain ⟨f, fd, ps, F, hm, kp, b⟩ := c.ex
  refine ⟨fun pins s σ H Q I h => ?_⟩
  refine wpAny_Call_Name_kw (ld_glob I hg hm ?_ hdb)
  refine PySem.W.callWith_KW (h₀ := X.base) I.ok.mod.kin kp hall (thn (ha.run pos pins s σ H _ I h) fun us s1 ⟨vs, H1, I1, r, q⟩ => ?_) hpl he
  refine thn (hkw.run pos pins s1 σ H1 _ I1 q) fun ws s2 ⟨zs, H2, I2, rz, l1, l2, q2⟩ => ⟨I2.kIn, ?_⟩
  rw [hks]
  exact run_X F (hr.mono hk) (b pt hpt) tkW I2 r rz l1 l2 q2
theorem vx_callX0 {pats : List Pat} (c : CalX X.prog X.w X.K X.mg X.base k x sp pats) (pt : Pat) (hpt : pt ∈ pats) (hr : Room j X.A) (hk : k ≤ j) (tkW : Takes X W) (hg : Gl X x) (hks : pt.2.1 = [] := by rfl)
    (hdb : (x == ("__debug__" : Str)) = false := by decide) : PE X (.Call (.Name x p) [] [] pos) (tCallX pt.1 pt.2.1.length sp pt.2.2 W tNil tNil) := by
  obtain ⟨f, fd, ps, F, hm, kp, b⟩ := c.ex
  refine ⟨fun pins s σ H Q I h => ?_⟩
  refine wpAny_Call_Name_kw (ld_glob I hg hm ?_ hdb)
  obtain ⟨l1, l2, q2⟩ := h
  have hz := run_X (us := []) (ws := []) F (hr.mono hk) (b pt hpt) tkW I .nil .nil l1 l2 q2
  rw [hks] at hz
  exact PySem.W.callWith_K0 I.kIn kp hz
end
/-! ### borrowed things -/
theorem Sep.bM {M : List Addr} {H0 G0 G H : Hp} {O : List (Addr)} (S : Sep M H0 G0 G H O) : Same (hideL M H0) H := fun b o e => by
  by_cases h : b ∈ M
  · rw [hideL_in h] at e
    cases e
  · rw [hideL_out h] at e
    exact S.base b o e h
theorem b_ne {M : List Addr} {H0 G0 G H : Hp} {O : List Addr} {a b : Addr} {o : HO} (h : (hideL M H0) a = some o) (S : Sep M H0 G0 G H O) (hb : b ∈ O) : a ≠ b := fun z => by
  subst z
  rcases (S.ow a hb).2.2 with q | q
  · rw [hideL_in q] at h
    cases h
  · by_cases hM : a ∈ M
    · rw [hideL_in hM] at h
      cases h
    · rw [hideL_out hM, q] at h
      cases h
theorem hide0 {H : Hp} : hideL [] H = H := by
  funext b
  unfold hideL
  rw [if_neg List.not_mem_nil]
theorem hide_nil {H : Hp} {a : Addr} {o : HO} (h : H a = some o) : (hideL [] H) a = some o := by
  rw [hide0]
  exact h
theorem Rp.hide_nil {H : Hp} {v : V} {d : PyData} (h : Rp H v d) : Rp (hideL [] H) v d := by
  rw [hide0]
  exact h
theorem Sep.startM {M : List Addr} {G H : Hp} (e : Same G H) (hM : ∀ a ∈ M, H a ≠ none) (hG : ∀ a ∈ M, G a = none) : Sep M H G G H M :=
  ⟨fun _ _ e _ => e, hM, e, Same.refl _, fun _ _ e => e, fun a ha => ⟨hG a ha, hM a ha, .inl ha⟩⟩
theorem Sep.gno {M : List Addr} {H0 G0 G H : Hp} {O L : List Addr} (S : Sep M H0 G0 G H O) (h : ∀ a ∈ L, a ∈ O) : ∀ a ∈ L, G a = none := fun a ha => (S.ow a (h a ha)).1
theorem RpAll.ixD {α : Type} [Inhabited α] {f : α → PyData} {H : Hp} {vs : List V} {xs : List α} {k : Int} (r : RpAll H vs (xs.map f)) (h : -(xs.length : Int) ≤ k ∧ k < xs.length) : ∃ v, atI vs k = some v ∧ Rp H v (f (itD xs k)) := by
  obtain ⟨v, x, h1, h2, h3⟩ := RpAll.ix r h
  refine ⟨v, h1, ?_⟩
  unfold itD
  rw [h2]
  exact h3
theorem tru_all {α : Type} [DecidableEq α] {f : α → PyData} {H : Hp} {vs : List V} {xs : List α} (r : RpAll H vs (xs.map f)) : (!decide (xs = [])) = !vs.isEmpty := by
  have h := r.len
  rw [List.length_map] at h
  cases xs <;> cases vs <;> simp_all
theorem ix_nn {α : Type} {xs : List α} {k : Int} (h0 : 0 ≤ k) (h1 : k < xs.length) : -(xs.length : Int) ≤ k ∧ k < xs.length := ⟨by omega, h1⟩
theorem all_nilQ {α : Type} {P : α → Prop} : ∀ x ∈ ([] : List α), P x := fun x h => by cases h
theorem all_consQ {α : Type} {P : α → Prop} {a : α} {l : List α} (h : P a) (t : ∀ x ∈ l, P x) : ∀ x ∈ a :: l, P x := fun x hx => by
  rcases List.mem_cons.mp hx with rfl | hx
  · exact h
  · exact t x hx
theorem mem_one {a b : Nat} (h : a ∈ [b]) : a = b := by simpa using h
theorem mem_cons2 {a b : Nat} {l : List Nat} (h : a ∈ b :: l) : a = b ∨ a ∈ l := List.mem_cons.mp h
theorem len0 {α : Type} {l : List α} (h : l.length = 0) : l = [] := List.length_eq_zero_iff.mp h
theorem len1 {α : Type} {l : List α} (h : l.length = 1) : ∃ a, l = [a] := List.length_eq_one_iff.mp h
theorem len_s {α : Type} {l : List α} {n : Nat} (h : l.length = n + 1) : ∃ a r, l = a :: r ∧ r.length = n := by
  cases l with
  | nil => cases h
  | cons a r => exact ⟨a, r, rfl, Nat.succ.inj h⟩
theorem len2 {α : Type} {l : List α} (h : l.length = 2) : ∃ a b, l = [a, b] := by
  obtain ⟨a, r, rfl, h2⟩ := len_s h
  obtain ⟨b, rfl⟩ := len1 h2
  exact ⟨a, b, rfl⟩
theorem len3 {α : Type} {l : List α} (h : l.length = 3) : ∃ a b c, l = [a, b, c] := by
  obtain ⟨a, r, rfl, h2⟩ := len_s h
  obtain ⟨b, c, rfl⟩ := len2 h2
  exact ⟨a, b, c, rfl⟩
theorem len4 {α : Type} {l : List α} (h : l.length = 4) : ∃ a b c d, l = [a, b, c, d] := by
  obtain ⟨a, r, rfl, h2⟩ := len_s h
  obtain ⟨b, c, d, rfl⟩ := len3 h2
  exact ⟨a, b, c, d, rfl⟩
theorem len5 {α : Type} {l : List α} (h : l.length = 5) : ∃ a b c d e, l = [a, b, c, d, e] := by
  obtain ⟨a, r, rfl, h2⟩ := len_s h
  obtain ⟨b, c, d, e, rfl⟩ := len4 h2
  exact ⟨a, b, c, d, e, rfl⟩
theorem len6 {α : Type} {l : List α} (h : l.length = 6) : ∃ a b c d e f, l = [a, b, c, d, e, f] := by
  obtain ⟨a, r, rfl, h2⟩ := len_s h
  obtain ⟨b, c, d, e, f, rfl⟩ := len5 h2
  exact ⟨a, b, c, d, e, f, rfl⟩
theorem len7 {α : Type} {l : List α} (h : l.length = 7) : ∃ a b c d e f g, l = [a, b, c, d, e, f, g] := by
  obtain ⟨a, r, rfl, h2⟩ := len_s h
  obtain ⟨b, c, d, e, f, g, rfl⟩ := len6 h2
  exact ⟨a, b, c, d, e, f, g, rfl⟩
def rLenTK (K : PySem.W.Frag) : List V → Hp → VK → Prop := fun xs H Q => ∃ (p : Addr) (vs : List V) (n : Nat), xs = [.ref p] ∧ SqT K H p vs ∧ vs.length = n ∧ Q (.int (n : Int)) H
theorem call_lenTK {X : Cx} {K : PySem.W.Frag} (hK : X.K = K := by rfl) : CallR X (.builtin "len") (rLenTK K) := by
  subst hK
  intro pins s σ H xs us Q I r h
  obtain ⟨p, vs, n, rfl, hs, hn, q⟩ := h
  exact call_len_seq pins s σ H _ us Q I r ⟨p, _, rfl, Or.inr hs, by rw [hn]; exact q⟩
theorem exm_mk {K : PySem.W.Frag} {S C : Addr} (h1 : PySem.W.subIn K (.ref C) (.type "BaseException") = some true) (h2 : PySem.W.isClsIn K C = true) (h3 : PySem.W.typeIn K (.ref C) = some (.type "type")) (h4 : PySem.W.subIn K (.ref S) (.ref C) = some true) :
    PySem.W.exmOne K (.ref S) (.ref C) = some true := by
  unfold PySem.W.isClsIn at h2
  unfold PySem.W.exmOne
  unfold PySem.W.kitCls
  simp only [h1, h2, h3, h4, beq_self_eq_true, Bool.and_self, if_true]
theorem kit_mk {K : PySem.W.Frag} {S C : Addr} (h2 : PySem.W.isClsIn K C = true) (h3 : PySem.W.typeIn K (.ref C) = some (.type "type")) (h4 : PySem.W.subIn K (.ref S) (.ref C) = some true) :
    PySem.W.kitOne K (.ref S) (.ref C) = some true := by
  unfold PySem.W.isClsIn at h2
  unfold PySem.W.kitOne
  split
  · rfl
  · unfold PySem.W.kitCls
    simp only [h2, h3, h4, beq_self_eq_true, Bool.and_self, if_true]
/-- isinstance(e, C) of the exception in hand -/
def rIsX (K : PySem.W.Frag) (a : Addr) (cls : Value) (d : Option Addr) : List V → Hp → VK → Prop := fun xs H Q => ∃ (D C : Addr) (b : Bool), cls = .ref D ∧ d = none ∧ ExcC K D ∧ xs = [.ref a, .ref C] ∧ PySem.W.kitOne K (.ref D) (.ref C) = some b ∧ Q (.bl b) H
theorem call_isX {X : Cx} {K : PySem.W.Frag} {a : Addr} {cls : Value} {d : Option Addr} {oe : Obj} {pn : List (Addr × Obj)} (hz : Zc cls d oe) (hf : ∃ vs, oe.data = .fields vs) (hK : X.K = K := by rfl) : CallR (X.suite a ((a, oe) :: pn)) (.builtin "isinstance") (rIsX K a cls d) := by
  subst hK
  intro pins s σ H xs us Q I r h
  obtain ⟨D, C, b, rfl, rfl, c, rfl, e, q⟩ := h
  exact call_isE c hz hf pins s σ H _ us Q I r ⟨_, _, b, rfl, fun u z => z, e, q⟩
/-! ### unpacking a list -/
section
variable {X : Cx} {K : PySem.W.Frag} {pos : Pos}
theorem pg_seqK {es : List Expr} {k : Nat} {t : TGs} {n : Nat} (h : PGs X es t) (hc : X.calm = true := by rfl) (hK : X.K = K := by rfl)
    (hn : (assignEach es X.env).length = n := by rfl) (hst : (assignEach es X.env).findIdx? (·.1) = none := by rfl) : PG X (.Tuple es k pos) (gLst K n t) := hK ▸ pg_lst hc h hn hst
end
theorem SqL.cast {K : PySem.W.Frag} {H : Hp} {a : Addr} {xs ys : List V} (h : SqL K H a xs) (e : xs = ys) : SqL K H a ys := e ▸ h
section
variable {α : Type} [Inhabited α] {f : α → V}
theorem unp2 {xs : List α} (h : xs.length = 2) : xs.map f = [f (itD xs 0), f (itD xs 1)] := by
  obtain ⟨a, b, rfl⟩ := len2 h
  rfl
theorem unp3 {xs : List α} (h : xs.length = 3) : xs.map f = [f (itD xs 0), f (itD xs 1), f (itD xs 2)] := by
  obtain ⟨a, b, c, rfl⟩ := len3 h
  rfl
theorem unp4 {xs : List α} (h : xs.length = 4) : xs.map f = [f (itD xs 0), f (itD xs 1), f (itD xs 2), f (itD xs 3)] := by
  obtain ⟨a, b, c, d, rfl⟩ := len4 h
  rfl
theorem unp6 {xs : List α} (h : xs.length = 6) : xs.map f = [f (itD xs 0), f (itD xs 1), f (itD xs 2), f (itD xs 3), f (itD xs 4), f (itD xs 5)] := by
  obtain ⟨a, b, c, d, e, g, rfl⟩ := len6 h
  rfl
theorem unp8 {xs : List α} (h : xs.length = 8) : xs.map f = [f (itD xs 0), f (itD xs 1), f (itD xs 2), f (itD xs 3), f (itD xs 4), f (itD xs 5), f (itD xs 6), f (itD xs 7)] := by
  obtain ⟨a, r, rfl, h2⟩ := len_s h
  obtain ⟨b, c, d, e, g, i, j, rfl⟩ := len7 h2
  rfl
end
end Vx
/-! # fourth part: reckoning with functions that may refuse -/
namespace Vx
open PySem PySem.Spec PyProof.Rows L2
section
variable {α β σ ρ τ : Type}
theorem bind_ok (a : α) (f : α → Rx β) : (Rx.ok a).bind f = f a := rfl
theorem bind_er (e : Nat) (f : α → Rx β) : (Rx.er e : Rx α).bind f = .er e := rfl
theorem grd_pos {p : Prop} {dp : Decidable p} {m : Rx α} (h : p) : grd p m = m := if_pos h
theorem bnd_eq (a : α) (f : α → Rx β) : bnd a f = f a := rfl
theorem noEr_ok (a : α) : noEr (.ok a : Rx α) = .ok a := rfl
theorem tryR_ok {cs : List Nat} (a : α) (f : α → Rx β) (g : Nat → Rx β) : tryR (.ok a) cs f g = f a := rfl
theorem tryR_er {cs : List Nat} {e : Nat} (h : e ∈ cs) (f : α → Rx β) (g : Nat → Rx β) : tryR (.er e) cs f g = g e := if_pos h
theorem aft_go (s : σ) (kr : ρ → Rx τ) (k : σ → Rx τ) : (Lp.go s : Lp σ ρ).aft kr k = k s := rfl
theorem aft_rt (r : ρ) (kr : ρ → Rx τ) (k : σ → Rx τ) : (Lp.rt r : Lp σ ρ).aft kr k = kr r := rfl
/-- gives a value of which P holds -/
def Gv (m : Rx α) (P : α → Prop) : Prop := ∃ v, m = .ok v ∧ P v
theorem Gv.ok {a : α} {P : α → Prop} (h : P a) : Gv (.ok a) P := ⟨a, rfl, h⟩
theorem Gv.of_eq {m : Rx α} {a : α} {P : α → Prop} (e : m = .ok a) (h : P a) : Gv m P := ⟨a, e, h⟩
theorem Gv.bind {m : Rx α} {f : α → Rx β} {P : α → Prop} {Q : β → Prop} (h : Gv m P) (k : ∀ v, P v → Gv (f v) Q) : Gv (m.bind f) Q := by
  obtain ⟨v, rfl, p⟩ := h
  exact k v p
theorem Gv.bind_eq {m : Rx α} {f : α → Rx β} {a : α} {Q : β → Prop} (h : m = .ok a) (k : Gv (f a) Q) : Gv (m.bind f) Q := by
  subst h
  exact k
theorem Gv.grd {p : Prop} {dp : Decidable p} {m : Rx α} {Q : α → Prop} (h : p) (k : Gv m Q) : Gv (Vx.grd p m) Q := by
  rw [grd_pos h]
  exact k
theorem Gv.bnd {a : α} {f : α → Rx β} {Q : β → Prop} (k : ∀ x, x = a → Gv (f x) Q) : Gv (Vx.bnd a f) Q := k a rfl
theorem Gv.ite {p : Prop} {dp : Decidable p} {a b : Rx α} {Q : α → Prop} (h1 : p → Gv a Q) (h2 : ¬ p → Gv b Q) : Gv (if p then a else b) Q := by
  split
  · exact h1 ‹_›
  · exact h2 ‹_›
theorem Gv.pos {p : Prop} {dp : Decidable p} {a b : Rx α} {Q : α → Prop} (h : p) (k : Gv a Q) : Gv (if p then a else b) Q := by rwa [if_pos h]
theorem Gv.neg {p : Prop} {dp : Decidable p} {a b : Rx α} {Q : α → Prop} (h : ¬ p) (k : Gv b Q) : Gv (if p then a else b) Q := by rwa [if_neg h]
theorem Gv.imp {m : Rx α} {P Q : α → Prop} (h : Gv m P) (k : ∀ v, P v → Q v) : Gv m Q := by
  obtain ⟨v, e, p⟩ := h
  exact ⟨v, e, k v p⟩
theorem Gv.noEr {m : Rx α} {P : α → Prop} (h : Gv m P) : Gv (Vx.noEr m) P := by
  obtain ⟨v, rfl, p⟩ := h
  exact ⟨v, rfl, p⟩
theorem Gv.tryOk {m : Rx α} {cs : List Nat} {f : α → Rx β} {g : Nat → Rx β} {P : α → Prop} {Q : β → Prop} (h : Gv m P) (k : ∀ v, P v → Gv (f v) Q) : Gv (tryR m cs f g) Q := by
  obtain ⟨v, rfl, p⟩ := h
  exact k v p
theorem Gv.tryEr {m : Rx α} {cs : List Nat} {e : Nat} {f : α → Rx β} {g : Nat → Rx β} {Q : β → Prop} (h : m = .er e) (hm : e ∈ cs) (k : Gv (g e) Q) : Gv (tryR m cs f g) Q := by
  subst h
  rw [tryR_er hm]
  exact k
theorem Gv.get {m : Rx α} {a : α} (h : Gv m (fun v => v = a)) : m = .ok a := by
  obtain ⟨v, e, rfl⟩ := h
  exact e
theorem Gv.eq {m : Rx α} {P : α → Prop} (h : Gv m P) : ∃ v, m = .ok v ∧ P v := h
/-- a loop that keeps P -/
theorem Gv.forS {P : Nat → σ → Prop} {xs : List α} {s : σ} {f : σ → α → Rx σ} (h0 : P 0 s) (hs : ∀ i x s, xs[i]? = some x → P i s → Gv (f s x) (P (i + 1))) : Gv (Vx.forS xs s f) (P xs.length) := by
  induction xs generalizing s P with
  | nil => exact .ok h0
  | cons x r ih =>
    refine Gv.bind (hs 0 x s rfl h0) fun s' p => ?_
    exact ih (P := fun i => P (i + 1)) p fun i y s hy q => hs (i + 1) y s (by simpa using hy) q
theorem Gv.forR {P : Nat → σ → Prop} {xs : List α} {s : σ} {f : σ → α → Rx (Lp σ ρ)} (h0 : P 0 s) (hs : ∀ i x s, xs[i]? = some x → P i s → Gv (f s x) (fun l => ∃ s', l = .go s' ∧ P (i + 1) s')) : Gv (Vx.forR xs s f) (fun l => ∃ s', l = .go s' ∧ P xs.length s') := by
  induction xs generalizing s P with
  | nil => exact .ok ⟨s, rfl, h0⟩
  | cons x r ih =>
    refine Gv.bind (hs 0 x s rfl h0) ?_
    rintro _ ⟨s', rfl, p⟩
    exact ih (P := fun i => P (i + 1)) p fun i y s hy q => hs (i + 1) y s (by simpa using hy) q
/-- a loop that carries nothing -/
theorem forR_unit {xs : List α} {f : Unit → α → Rx (Lp Unit ρ)} (h : ∀ x ∈ xs, f () x = .ok (.go ())) : Vx.forR xs () f = .ok (.go ()) := by
  induction xs with
  | nil => rfl
  | cons x r ih =>
    show (f () x).bind _ = _
    rw [h x List.mem_cons_self]
    exact ih fun y hy => h y (List.mem_cons_of_mem _ hy)
theorem forS_pure {xs : List α} {s : σ} {f : σ → α → Rx σ} {g : σ → α → σ} (h : ∀ s x, x ∈ xs → f s x = .ok (g s x)) : Vx.forS xs s f = .ok (xs.foldl g s) := by
  induction xs generalizing s with
  | nil => rfl
  | cons x r ih =>
    show (f s x).bind _ = _
    rw [h s x List.mem_cons_self]
    exact ih fun s y hy => h s y (List.mem_cons_of_mem _ hy)
theorem mapA_pure {xs : List α} {acc : List β} {f : α → Rx β} {g : α → β} (h : ∀ x ∈ xs, f x = .ok (g x)) (hl : acc.length + xs.length ≤ 1000000) : mapA xs acc f = .ok (acc ++ xs.map g) := by
  induction xs generalizing acc with
  | nil => simp [mapA]
  | cons x r ih =>
    rw [List.length_cons] at hl
    unfold mapA
    rw [grd_pos (by omega), h x List.mem_cons_self, bind_ok, ih (fun y hy => h y (List.mem_cons_of_mem _ hy)) (by rw [List.length_append, List.length_cons, List.length_nil]; omega)]
    simp
theorem mapA_pure0 {xs : List α} {f : α → Rx β} {g : α → β} (h : ∀ x ∈ xs, f x = .ok (g x)) (hl : xs.length ≤ 1000000) : mapA xs [] f = .ok (xs.map g) := by
  rw [mapA_pure h (by simpa using hl)]
  rfl
theorem mapF_pure {xs : List α} {acc : List β} {f : α → Rx (Option β)} {g : α → Option β} (h : ∀ x ∈ xs, f x = .ok (g x)) (hl : acc.length + xs.length ≤ 1000000) : mapF xs acc f = .ok (acc ++ xs.filterMap g) := by
  induction xs generalizing acc with
  | nil => simp [mapF]
  | cons x r ih =>
    rw [List.length_cons] at hl
    unfold mapF
    rw [grd_pos (by omega), h x List.mem_cons_self, bind_ok]
    cases e : g x with
    | none =>
      show mapF r acc f = _
      rw [ih (fun y hy => h y (List.mem_cons_of_mem _ hy)) (by omega), List.filterMap_cons, e]
    | some z =>
      show mapF r (acc ++ [z]) f = _
      rw [ih (fun y hy => h y (List.mem_cons_of_mem _ hy)) (by rw [List.length_append, List.length_cons, List.length_nil]; omega), List.filterMap_cons, e]
      simp
/-- a while that ends: m falls -/
theorem Gv.whileR {P : σ → Prop} {R : σ → Prop} (m : σ → Nat) {f : σ → Rx (Lp σ ρ)} (hs : ∀ s, P s → Gv (f s) (fun l => (∃ s', l = .go s' ∧ P s' ∧ m s' < m s) ∨ ∃ s', l = .bk s' ∧ R s')) : ∀ {n : Nat} {s : σ}, P s → m s < n → Gv (Vx.whileR n s f) (fun l => ∃ s', l = .go s' ∧ R s') := by
  intro n
  induction n with
  | zero => intro s _ h; exact absurd h (Nat.not_lt_zero _)
  | succ n ih =>
    intro s p h
    refine Gv.bind (hs s p) ?_
    rintro _ (⟨s', rfl, p', l⟩ | ⟨s', rfl, r⟩)
    · exact ih p' (by omega)
    · exact .ok ⟨s', rfl, r⟩
end
theorem rng_mem {lo x : Int} {n : Nat} (h : x ∈ rng lo n) : lo ≤ x ∧ x < lo + n := by
  unfold rng at h
  obtain ⟨j, hj, rfl⟩ := List.mem_map.mp h
  have := List.mem_range.mp hj
  omega
theorem rng_at {lo x : Int} {n i : Nat} (h : (rng lo n)[i]? = some x) : x = lo + i ∧ i < n := by
  have hl := get_len h
  rw [rng_len] at hl
  rw [rng_get hl] at h
  exact ⟨(Option.some.inj h).symm, hl⟩
end Vx
namespace Vx
open PySem PySem.Spec PyProof.Rows L2
def F_step_of (quantizer' : Int) : Rx Int :=
  (if 0 ≤ quantizer' then (if quantizer' ≤ 31 then grd ((-(2 ^ 64) < quantizer' ∧ quantizer' < 2 ^ 64) ∨ (-(2 ^ 64) < quantizer' ∧ quantizer' < 2 ^ 64)) <| .ok (((1 + quantizer') + ((quantizer' * quantizer') / 4))) else .er 1) else .er 1)

def F_edge_limit (first' : Int) (second' : Int) (edge' : Int) : Rx Int :=
  Rx.bind (F_step_of ((first' + second') / 2)) fun v4 => grd ((-(2 ^ 64) < v4 ∧ v4 < 2 ^ 64) ∨ (-(2 ^ 64) < (8 + edge') ∧ (8 + edge') < 2 ^ 64)) <| .ok (((v4 * (8 + edge')) / 16))

def F__law_digits_b1 (base_17 : Int) (large_18 : Bool) (cell_30 : Int) (digits_31 : (List Int)) (it34 : Int) : Rx (Int × (List Int)) :=
  (if large_18 = true then grd (0 < base_17) <| grd ((digits_31).length ≤ 1000000) <| bnd ((digits_31) ++ [(cell_30 % base_17)]) fun y44 => grd (0 < base_17 ∧ base_17 < 2 ^ 128) <| bnd ((cell_30 / base_17)) fun cell_46 => .ok ((cell_46), (y44)) else grd ((-(2 ^ 64) < (it34 + 1) ∧ (it34 + 1) < 2 ^ 64) ∨ (-(2 ^ 64) < (it34 + 5) ∧ (it34 + 5) < 2 ^ 64)) <| grd ((-(2 ^ 64) < (cell_30 / 97) ∧ (cell_30 / 97) < 2 ^ 64) ∨ (-(2 ^ 64) < it34 ∧ it34 < 2 ^ 64)) <| grd (0 < base_17) <| grd ((digits_31).length ≤ 1000000) <| bnd ((digits_31) ++ [(((((cell_30 * 48271) + (((it34 + 1) * (it34 + 5)) * 69621)) + ((cell_30 / 97) * it34)) % 2147483647) % base_17)]) fun y57 => .ok ((cell_30), (y57)))

def F__law_digits_r1 (cell_63 : Int) (digits_64 : (List Int)) : Rx (List Int) :=
  .ok (digits_64)

def F__law_digits (cell' : Int) (base' : Int) (most' : Int) : Rx (List Int) :=
  bnd (decide (((10 : Int) ^ Int.toNat 18) ≤ cell')) fun large_15 => grd (-(2 ^ 62) ≤ most' ∧ most' < 2 ^ 62) <| Rx.bind (forS (rng (0) (Int.toNat (most'))) ((cell'), ([])) (fun s x => F__law_digits_b1 (base') (large_15) (s.1) (s.2) x)) fun s => F__law_digits_r1  (s.1) (s.2)

def F__law_samples_b1 (top_95 : Int) (base_96 : Int) (samples_115 : (List Int)) (it118 : Int) : Rx ((List Int)) :=
  grd ((samples_115).length ≤ 1000000) <| bnd ((samples_115) ++ [(if (if ((base_96 + it118) - 20) < top_95 then ((base_96 + it118) - 20) else top_95) > 0 then (if ((base_96 + it118) - 20) < top_95 then ((base_96 + it118) - 20) else top_95) else 0)]) fun y126 => .ok (y126)

def F__law_samples_r1 (samples_134 : (List Int)) : Rx (List Int) :=
  .ok (samples_134)

def F__law_samples (cell' : Int) (top' : Int) : Rx (List Int) :=
  (if ((cell' % 3) : Int) = 0 then Rx.bind (F__law_digits (cell' / 3) (top' + 1) 4) fun v66 => .ok (v66) else grd (0 < (top' + 1)) <| bnd (((cell' / 3) % (top' + 1))) fun base_76 => Rx.bind (F__law_digits (cell' / 7) 41 4) fun v86 => Rx.bind (forS (v86) ([]) (fun s x => F__law_samples_b1 (top') (base_76) s x)) fun s => F__law_samples_r1  s)

def F_clip (value' : Int) (low' : Int) (high' : Int) : Rx Int :=
  .ok ((if high' < (if low' > value' then low' else value') then high' else (if low' > value' then low' else value')))

def F_smooth_edge (a1' : Int) (a0' : Int) (b0' : Int) (b1' : Int) (limit' : Int) (top' : Int) : Rx (Int × Int) :=
  bnd ((decide ((if (a1' - a0') < 0 then -(a1' - a0') else (a1' - a0')) < limit') && decide ((if (b1' - b0') < 0 then -(b1' - b0') else (b1' - b0')) < limit'))) fun is_flat_137 => (if is_flat_137 = true then (if (2 * limit') ≤ (if (a0' - b0') < 0 then -(a0' - b0') else (a0' - b0')) then .ok ((a0', b0')) else Rx.bind (F_clip (((((3 * (b0' - a0')) + a1') - b1') + 4) / 8) (-limit') limit') fun v164 => Rx.bind (F_clip (a0' + v164) 0 top') fun v165 => Rx.bind (F_clip (b0' - v164) 0 top') fun v166 => .ok ((v165, v166))) else .ok ((a0', b0')))

def F__law_cell (script' : (List Int)) (k' : Int) : Rx Int :=
  (if k' < (((script') : (List Int)).length : Int) then grd (-((script').length : Int) ≤ k' ∧ k' < ((script').length : Int)) <| .ok ((if (itD (script') (k')) < 0 then -(itD (script') (k')) else (itD (script') (k')))) else .ok (0))

def F__law_due (a1' : Int) (a0' : Int) (b0' : Int) (b1' : Int) (limit' : Int) (top' : Int) : Rx (Int × Int) :=
  (if limit' ≤ (if (a1' - a0') < 0 then -(a1' - a0') else (a1' - a0')) then .ok ((a0', b0')) else (if limit' ≤ (if (b1' - b0') < 0 then -(b1' - b0') else (b1' - b0')) then .ok ((a0', b0')) else (if (2 * limit') ≤ (if (a0' - b0') < 0 then -(a0' - b0') else (a0' - b0')) then .ok ((a0', b0')) else bnd ((((((3 * (b0' - a0')) + a1') - b1') + 4) / 8)) fun change_220 => bnd ((if (if change_220 < limit' then change_220 else limit') > (0 - limit') then (if change_220 < limit' then change_220 else limit') else (0 - limit'))) fun change_221 => .ok (((if (if (a0' + change_221) < top' then (a0' + change_221) else top') > 0 then (if (a0' + change_221) < top' then (a0' + change_221) else top') else 0), (if (if (b0' - change_221) < top' then (b0' - change_221) else top') > 0 then (if (b0' - change_221) < top' then (b0' - change_221) else top') else 0))))))

def F__law_is_integer (actual' : Int) : Rx Bool :=
  .ok (true)

def F__law_refused (first' : Int) (second' : Int) : Rx Bool :=
  tryR (F_edge_limit first' second' 0) [1] (fun v234 => .ok (false)) (fun _ => .ok (true))

def F_law_k2 (cell_279 : Int) (top_280 : Int) (edge_281 : Int) (mean_282 : Int) (limit_283 : Int) : Rx (Lp Unit Bool) :=
  Rx.bind (F__law_samples (cell_279 / 3) top_280) fun v293 => grd (-((v293).length : Int) ≤ 0 ∧ 0 < ((v293).length : Int)) <| grd (-((v293).length : Int) ≤ 1 ∧ 1 < ((v293).length : Int)) <| grd (-((v293).length : Int) ≤ 2 ∧ 2 < ((v293).length : Int)) <| grd (-((v293).length : Int) ≤ 3 ∧ 3 < ((v293).length : Int)) <| Rx.bind (F_smooth_edge (itD (v293) (0)) (itD (v293) (1)) (itD (v293) (2)) (itD (v293) (3)) limit_283 top_280) fun v306 => (if (2 : Int) = 2 then Rx.bind (F__law_is_integer v306.1) fun v323 => (if v323 = true then Rx.bind (F__law_is_integer v306.2) fun v325 => (if v325 = true then grd (-((v293).length : Int) ≤ 0 ∧ 0 < ((v293).length : Int)) <| grd (-((v293).length : Int) ≤ 1 ∧ 1 < ((v293).length : Int)) <| grd (-((v293).length : Int) ≤ 2 ∧ 2 < ((v293).length : Int)) <| grd (-((v293).length : Int) ≤ 3 ∧ 3 < ((v293).length : Int)) <| Rx.bind (F__law_due (itD (v293) (0)) (itD (v293) (1)) (itD (v293) (2)) (itD (v293) (3)) limit_283 top_280) fun v332 => (if (v306 : (Int × Int)) = v332 then grd (-((v293).length : Int) ≤ 1 ∧ 1 < ((v293).length : Int)) <| (if limit_283 < (if (v306.1 - (itD (v293) (1))) < 0 then -(v306.1 - (itD (v293) (1))) else (v306.1 - (itD (v293) (1)))) then .ok (.rt (false)) else grd (-((v293).length : Int) ≤ 2 ∧ 2 < ((v293).length : Int)) <| (if limit_283 < (if (v306.2 - (itD (v293) (2))) < 0 then -(v306.2 - (itD (v293) (2))) else (v306.2 - (itD (v293) (2)))) then .ok (.rt (false)) else bnd ((((cell_279 / 17) % 141) - 40)) fun far_354 => bnd ((((cell_279 / 19) % 64) - far_354)) fun other_355 => bnd (((far_354 + other_355) / 2)) fun mean_356 => Rx.bind (F_edge_limit far_354 other_355 edge_281) fun v357 => grd ((-(2 ^ 64) < mean_356 ∧ mean_356 < 2 ^ 64) ∨ (-(2 ^ 64) < mean_356 ∧ mean_356 < 2 ^ 64)) <| grd ((-(2 ^ 64) < ((1 + mean_356) + ((mean_356 * mean_356) / 4)) ∧ ((1 + mean_356) + ((mean_356 * mean_356) / 4)) < 2 ^ 64) ∨ (-(2 ^ 64) < (8 + edge_281) ∧ (8 + edge_281) < 2 ^ 64)) <| (if (v357 : Int) = ((((1 + mean_356) + ((mean_356 * mean_356) / 4)) * (8 + edge_281)) / 16) then Rx.bind (F__law_refused far_354 ((64 + (cell_279 % 9)) - far_354)) fun v361 => (if v361 = true then Rx.bind (F__law_refused far_354 (((-1) - (cell_279 % 9)) - far_354)) fun v366 => (if v366 = true then Rx.bind (F__law_refused (32 + (cell_279 % 9)) (32 + (cell_279 % 9))) fun v371 => (if v371 = true then Rx.bind (F__law_refused ((-1) - (cell_279 % 9)) (0 - (cell_279 % 3))) fun v376 => (if v376 = true then .ok (.go ()) else .ok (.rt (false))) else .ok (.rt (false))) else .ok (.rt (false))) else .ok (.rt (false))) else .ok (.rt (false))))) else .ok (.rt (false))) else .ok (.rt (false))) else .ok (.rt (false))) else .ok (.rt (false)))

def F_law_b1 (script_238 : (List Int)) (it262 : Int) : Rx (Lp Unit Bool) :=
  Rx.bind (F__law_cell (script_238) it262) fun v263 => bnd ((v263 + it262)) fun cell_264 => grd ((0 : Int) ≤ (8 + (cell_264 % 5)) ∧ (8 + (cell_264 % 5)) ≤ 4096 ∧ -(2 ^ 4096) < (1 : Int) ∧ (1 : Int) < 2 ^ 4096) <| bnd (((1 * 2 ^ Int.toNat ((8 + (cell_264 % 5)))) - 1)) fun top_266 => bnd (((cell_264 / 5) % 32)) fun first_267 => bnd (((cell_264 / 160) % 32)) fun second_268 => bnd ((((cell_264 / 11) % 13) - 6)) fun edge_269 => bnd (((first_267 + second_268) / 2)) fun mean_270 => grd ((-(2 ^ 64) < mean_270 ∧ mean_270 < 2 ^ 64) ∨ (-(2 ^ 64) < mean_270 ∧ mean_270 < 2 ^ 64)) <| bnd (((1 + mean_270) + ((mean_270 * mean_270) / 4))) fun step_272 => grd ((-(2 ^ 64) < step_272 ∧ step_272 < 2 ^ 64) ∨ (-(2 ^ 64) < (8 + edge_269) ∧ (8 + edge_269) < 2 ^ 64)) <| bnd (((step_272 * (8 + edge_269)) / 16)) fun due_274 => Rx.bind (F_edge_limit first_267 second_268 edge_269) fun v275 => Rx.bind (F__law_is_integer v275) fun v276 => (if v276 = true then (if (v275 : Int) = due_274 then Rx.bind (((if (((cell_264 / 13) % 2) : Int) = 0 then bnd (((cell_264 / 26) % 201)) fun limit_288 => .ok (limit_288) else .ok (v275)) : Rx (Int))) fun s => F_law_k2 (cell_264) (top_266) (edge_269) (mean_270) s else .ok (.rt (false))) else .ok (.rt (false)))

def F_law_r1  : Rx Bool :=
  .ok (true)

def F_law (script' : (List Int)) : Rx Bool :=
  grd (-(2 ^ 62) ≤ (if 30 < (1 + (((script') : (List Int)).length : Int)) then 30 else (1 + (((script') : (List Int)).length : Int))) ∧ (if 30 < (1 + (((script') : (List Int)).length : Int)) then 30 else (1 + (((script') : (List Int)).length : Int))) < 2 ^ 62) <| Rx.bind (forR (rng (0) (Int.toNat ((if 30 < (1 + (((script') : (List Int)).length : Int)) then 30 else (1 + (((script') : (List Int)).length : Int)))))) () (fun s x => F_law_b1 (script')  x)) fun l => l.aft Rx.ok fun s => F_law_r1  
theorem cell_gv (s : List Int) (k : Int) (h : 0 ≤ k) : Gv (F__law_cell s k) (fun v => 0 ≤ v) := by
  unfold F__law_cell
  refine Gv.ite (fun c => Gv.grd ⟨by omega, c⟩ (.ok ?_)) fun _ => .ok (by decide)
  split <;> omega
theorem all_snoc {P : Int → Prop} {xs : List Int} {y : Int} (h : ∀ x ∈ xs, P x) (hy : P y) : ∀ x ∈ xs ++ [y], P x := fun x hx => by
  rcases List.mem_append.mp hx with q | q
  · exact h x q
  · rw [List.mem_singleton.mp q]
    exact hy
theorem digits_gv (cell base most : Int) (h0 : 0 < base) (h1 : base < 2 ^ 64) (hm : 0 ≤ most) (hm2 : most ≤ 1000) : Gv (F__law_digits cell base most) (fun v => (v.length : Int) = most ∧ ∀ x ∈ v, 0 ≤ x ∧ x < base) := by
  unfold F__law_digits
  refine Gv.bnd fun large _ => Gv.grd ⟨by omega, by omega⟩ (Gv.bind (Gv.forS (P := fun i s => s.2.length = i ∧ ∀ x ∈ s.2, 0 ≤ x ∧ x < base) ⟨rfl, fun x hx => by cases hx⟩ fun i x s hx p => ?_) fun s p => .ok ⟨?_, p.2⟩)
  · obtain ⟨rfl, hi⟩ := rng_at hx
    have hl := p.1
    unfold F__law_digits_b1
    refine Gv.ite (fun _ => Gv.grd h0 (Gv.grd (by omega) (Gv.bnd fun y hy => Gv.grd ⟨h0, by omega⟩ (Gv.bnd fun c _ => .ok ?_)))) fun _ => Gv.grd ?_ (Gv.grd ?_ (Gv.grd h0 (Gv.grd (by omega) (Gv.bnd fun y hy => .ok ?_))))
    · subst hy
      exact ⟨by rw [List.length_append, hl]; rfl, all_snoc p.2 ⟨Int.emod_nonneg _ (by omega), Int.emod_lt_of_pos _ h0⟩⟩
    · left
      omega
    · right
      omega
    · subst hy
      exact ⟨by rw [List.length_append, hl]; rfl, all_snoc p.2 ⟨Int.emod_nonneg _ (by omega), Int.emod_lt_of_pos _ h0⟩⟩
  · have := p.1
    rw [rng_len] at this
    omega
theorem sq_b {q : Int} (h0 : 0 ≤ q) (h1 : q ≤ 31) : 0 ≤ q * q ∧ q * q ≤ 961 := ⟨Int.mul_nonneg h0 h0, by
  have := Int.mul_le_mul h1 h1 h0 (by decide : (0 : Int) ≤ 31)
  omega⟩
def stp (q : Int) : Int := (1 + q) + (q * q) / 4
theorem stp_b {q : Int} (h0 : 0 ≤ q) (h1 : q ≤ 31) : 0 < stp q ∧ stp q < 1000 := by
  have := sq_b h0 h1
  unfold stp
  omega
theorem step_ok {q : Int} (h0 : 0 ≤ q) (h1 : q ≤ 31) : F_step_of q = .ok (stp q) := by
  unfold F_step_of
  rw [if_pos h0, if_pos h1, grd_pos (.inl ⟨by omega, by omega⟩)]
  rfl
theorem step_er {q : Int} (h : q < 0 ∨ 31 < q) : F_step_of q = .er 1 := by
  unfold F_step_of
  split
  · rw [if_neg (by omega)]
  · rfl
theorem one_4096 : -(2 ^ 4096) < (1 : Int) ∧ (1 : Int) < 2 ^ 4096 := by
  have h : (0 : Int) < 2 ^ 4095 := Int.pow_pos (by decide)
  have e : (2 : Int) ^ 4096 = 2 ^ 4095 * 2 := Int.pow_succ 2 4095
  generalize (2 : Int) ^ 4095 = z at h e
  generalize (2 : Int) ^ 4096 = y at e ⊢
  omega
theorem top_b {d : Int} (h0 : 0 ≤ d) (h1 : d < 5) : 255 ≤ 1 * 2 ^ Int.toNat (8 + d) - (1 : Int) ∧ 1 * 2 ^ Int.toNat (8 + d) - (1 : Int) ≤ 4095 := by
  have : d = 0 ∨ d = 1 ∨ d = 2 ∨ d = 3 ∨ d = 4 := by omega
  rcases this with rfl | rfl | rfl | rfl | rfl <;> decide
theorem samples_gv (cell top : Int) (h0 : 0 ≤ top) (h1 : top ≤ 4095) : Gv (F__law_samples cell top) (fun v => v.length = 4 ∧ ∀ x ∈ v, 0 ≤ x ∧ x ≤ top) := by
  unfold F__law_samples
  refine Gv.ite (fun _ => Gv.bind (digits_gv _ _ 4 (by omega) (by omega) (by decide) (by decide)) fun v hv => .ok ⟨by omega, fun x hx => ?_⟩) fun _ => Gv.grd (by omega) (Gv.bnd fun base hb => Gv.bind (digits_gv _ 41 4 (by decide) (by decide) (by decide) (by decide)) fun v hv => Gv.bind (Gv.forS (P := fun i s => s.length = i ∧ ∀ x ∈ s, 0 ≤ x ∧ x ≤ top) ⟨rfl, fun x hx => by cases hx⟩ fun i x s hx p => ?_) fun s p => .ok ⟨?_, p.2⟩)
  · have := hv.2 x hx
    omega
  · have hl := p.1
    have := get_len hx
    unfold F__law_samples_b1
    refine Gv.grd (by omega) (Gv.bnd fun y hy => .ok ?_)
    subst hy
    refine ⟨by rw [List.length_append, hl]; rfl, all_snoc p.2 ?_⟩
    generalize base + x - 20 = z
    split <;> split <;> (try split) <;> omega
  · have := p.1
    omega
def cl (v lo hi : Int) : Int := if hi < (if lo > v then lo else v) then hi else (if lo > v then lo else v)
theorem clip_eq (v lo hi : Int) : F_clip v lo hi = .ok (cl v lo hi) := rfl
theorem cl_mm {v lo hi : Int} (h : lo ≤ hi) : (if (if v < hi then v else hi) > lo then (if v < hi then v else hi) else lo) = cl v lo hi := by
  unfold cl
  repeat' split
  all_goals omega
theorem cl_mm2 {v lo hi : Int} (h : lo ≤ hi) : lo ≤ cl v lo hi ∧ cl v lo hi ≤ hi := by
  unfold cl
  repeat' split
  all_goals omega
theorem cl_near {a m l top : Int} (h : -l ≤ m) (h2 : m ≤ l) (h3 : 0 ≤ a) (h4 : a ≤ top) : ¬ l < (if cl (a + m) 0 top - a < 0 then -(cl (a + m) 0 top - a) else cl (a + m) 0 top - a) := by
  unfold cl
  repeat' split
  all_goals omega
theorem same_near {a l : Int} (h : 0 ≤ l) : ¬ l < (if a - a < 0 then -(a - a) else a - a) := by
  split <;> omega
theorem smooth_gv {a1 a0 b0 b1 limit top : Int} (hl : 0 ≤ limit) (ha : 0 ≤ a0 ∧ a0 ≤ top) (hb : 0 ≤ b0 ∧ b0 ≤ top) :
    Gv (F_smooth_edge a1 a0 b0 b1 limit top) (fun p => F__law_due a1 a0 b0 b1 limit top = .ok p ∧ ¬ limit < (if p.1 - a0 < 0 then -(p.1 - a0) else p.1 - a0) ∧ ¬ limit < (if p.2 - b0 < 0 then -(p.2 - b0) else p.2 - b0)) := by
  unfold F_smooth_edge F__law_due
  refine Gv.bnd fun fl hf => ?_
  by_cases c1 : (if a1 - a0 < 0 then -(a1 - a0) else a1 - a0) < limit
  · rw [if_neg (show ¬ limit ≤ (if a1 - a0 < 0 then -(a1 - a0) else a1 - a0) by omega)]
    by_cases c2 : (if b1 - b0 < 0 then -(b1 - b0) else b1 - b0) < limit
    · rw [if_neg (show ¬ limit ≤ (if b1 - b0 < 0 then -(b1 - b0) else b1 - b0) by omega)]
      have e : fl = true := by rw [hf, decide_eq_true c1, decide_eq_true c2]; rfl
      refine Gv.pos e ?_
      by_cases c3 : 2 * limit ≤ (if a0 - b0 < 0 then -(a0 - b0) else a0 - b0)
      · rw [if_pos c3, if_pos c3]
        exact .ok ⟨rfl, same_near hl, same_near hl⟩
      · rw [if_neg c3, if_neg c3]
        refine Gv.bind_eq (clip_eq _ _ _) (Gv.bind_eq (clip_eq _ _ _) (Gv.bind_eq (clip_eq _ _ _) (.ok ?_)))
        have m := cl_mm2 (v := (3 * (b0 - a0) + a1 - b1 + 4) / 8) (lo := -limit) (hi := limit) (by omega)
        have em : (if (if (3 * (b0 - a0) + a1 - b1 + 4) / 8 < limit then (3 * (b0 - a0) + a1 - b1 + 4) / 8 else limit) > 0 - limit then (if (3 * (b0 - a0) + a1 - b1 + 4) / 8 < limit then (3 * (b0 - a0) + a1 - b1 + 4) / 8 else limit) else 0 - limit) = cl ((3 * (b0 - a0) + a1 - b1 + 4) / 8) (-limit) limit := by
          rw [← cl_mm (by omega)]
          rw [Int.zero_sub]
        rw [bnd_eq, em, bnd_eq]
        generalize cl ((3 * (b0 - a0) + a1 - b1 + 4) / 8) (-limit) limit = z at m ⊢
        refine ⟨?_, cl_near m.1 m.2 ha.1 ha.2, ?_⟩
        · rw [cl_mm (by omega), cl_mm (by omega)]
        · have := cl_near (a := b0) (m := -z) (l := limit) (top := top) (by omega) (by omega) hb.1 hb.2
          rwa [← Int.sub_eq_add_neg] at this
    · rw [if_pos (show limit ≤ (if b1 - b0 < 0 then -(b1 - b0) else b1 - b0) by omega)]
      refine Gv.neg (by rw [hf, decide_eq_false c2, Bool.and_false]; decide) (.ok ⟨rfl, same_near hl, same_near hl⟩)
  · rw [if_pos (show limit ≤ (if a1 - a0 < 0 then -(a1 - a0) else a1 - a0) by omega)]
    refine Gv.neg (by rw [hf, decide_eq_false c1, Bool.false_and]; decide) (.ok ⟨rfl, same_near hl, same_near hl⟩)
theorem edge_ok {f s e : Int} (h0 : 0 ≤ (f + s) / 2) (h1 : (f + s) / 2 ≤ 31) (e0 : -6 ≤ e) (e1 : e ≤ 6) : F_edge_limit f s e = .ok ((stp ((f + s) / 2) * (8 + e)) / 16) := by
  unfold F_edge_limit
  have := stp_b h0 h1
  rw [step_ok h0 h1, bind_ok, grd_pos (.inl ⟨by omega, by omega⟩)]
theorem refused_ok {f s : Int} (h : (f + s) / 2 < 0 ∨ 31 < (f + s) / 2) : F__law_refused f s = .ok true := by
  unfold F__law_refused F_edge_limit
  rw [step_er h, bind_er, tryR_er (by simp)]
theorem at_mem {xs : List Int} {P : Int → Prop} (hl : xs.length = 4) (h : ∀ x ∈ xs, P x) : P (itD xs 1) ∧ P (itD xs 2) := by
  obtain ⟨a, b, c, d, rfl⟩ := len4 hl
  exact ⟨h b (by simp), h c (by simp)⟩
theorem k2_ok {c top e m l : Int} (ht0 : 0 ≤ top) (ht1 : top ≤ 4095) (e0 : -6 ≤ e) (e1 : e ≤ 6) (hl : 0 ≤ l) : F_law_k2 c top e m l = .ok (.go ()) := by
  refine Gv.get ?_
  unfold F_law_k2
  refine Gv.bind (samples_gv _ _ ht0 ht1) fun four hf => ?_
  have h4 := hf.1
  have hm := at_mem h4 hf.2
  refine Gv.grd (by omega) (Gv.grd (by omega) (Gv.grd (by omega) (Gv.grd (by omega) (Gv.bind (smooth_gv hl hm.1 hm.2) fun p hp => ?_))))
  refine Gv.pos rfl (Gv.bind_eq rfl (Gv.pos rfl (Gv.bind_eq rfl (Gv.pos rfl (Gv.grd (by omega) (Gv.grd (by omega) (Gv.grd (by omega) (Gv.grd (by omega) (Gv.bind_eq hp.1 (Gv.pos rfl ?_))))))))))
  refine Gv.grd (by omega) (Gv.neg hp.2.1 (Gv.grd (by omega) (Gv.neg hp.2.2 ?_)))
  refine Gv.bnd fun far hfar => Gv.bnd fun other ho => Gv.bnd fun mean hme => ?_
  have b0 : 0 ≤ mean := by omega
  have b1 : mean ≤ 31 := by omega
  have sb := stp_b b0 b1
  refine Gv.bind_eq (edge_ok (by omega) (by omega) e0 e1) (Gv.grd (.inl ⟨by omega, by omega⟩) (Gv.grd (.inr ⟨by omega, by omega⟩) (Gv.pos ?_ ?_)))
  · rw [hme]
    rfl
  refine Gv.bind_eq (refused_ok (by omega)) (Gv.pos rfl (Gv.bind_eq (refused_ok (by omega)) (Gv.pos rfl (Gv.bind_eq (refused_ok (by omega)) (Gv.pos rfl (Gv.bind_eq (refused_ok (by omega)) (Gv.pos rfl (.ok rfl))))))))
theorem b1_ok (s : List Int) (k : Int) (h : 0 ≤ k) : F_law_b1 s k = .ok (.go ()) := by
  refine Gv.get ?_
  unfold F_law_b1
  refine Gv.bind (cell_gv s k h) fun c0 hc0 => Gv.bnd fun cell hcell => Gv.grd ⟨by omega, by omega, one_4096⟩ (Gv.bnd fun top ht => Gv.bnd fun first hf => Gv.bnd fun second hs => Gv.bnd fun edge he => Gv.bnd fun mean hm => ?_)
  have tb := top_b (d := cell % 5) (by omega) (by omega)
  rw [← ht] at tb
  have b0 : 0 ≤ mean := by omega
  have b1 : mean ≤ 31 := by omega
  have sb := stp_b b0 b1
  refine Gv.grd (.inl ⟨by omega, by omega⟩) (Gv.bnd fun step hst => ?_)
  have hst : step = stp mean := hst
  refine Gv.grd (.inl ⟨by omega, by omega⟩) (Gv.bnd fun due hd => Gv.bind_eq (edge_ok (by omega) (by omega) (by omega) (by omega)) (Gv.bind_eq rfl (Gv.pos rfl (Gv.pos ?_ ?_))))
  · rw [hd, hst, hm]
  have nn : 0 ≤ stp ((first + second) / 2) * (8 + edge) / 16 := by
    rw [← hm]
    have := Int.mul_nonneg (show 0 ≤ stp mean by omega) (show 0 ≤ 8 + edge by omega)
    omega
  refine Gv.bind (P := fun l => 0 ≤ l) (Gv.ite (fun _ => Gv.bnd fun _ _ => .ok (by omega)) fun _ => .ok nn) fun l hl => ?_
  exact .of_eq (k2_ok (by omega) tb.2 (by omega) (by omega) hl) rfl
theorem law_true (xs : List Int) (h : xs.length ≤ 63) : F_law xs = .ok true := by
  unfold F_law
  rw [grd_pos (by split <;> omega), forR_unit (fun x hx => b1_ok xs x (rng_mem hx).1)]
  rfl

end Vx
namespace Vx
open PySem PySem.Spec PyProof.Rows L2
def topS (i : Nat) : Stmt := PySem.Challenge.pw_thaumatrope_k56_edges_smoothed.main.body.getD i (.Pass ⟨0, 0, 0, 0⟩)
abbrev s_step_of : Stmt := topS 7
abbrev s_edge_limit : Stmt := topS 9
abbrev s__law_digits : Stmt := topS 13
abbrev s__law_samples : Stmt := topS 16
abbrev s_clip : Stmt := topS 1
abbrev s_smooth_edge : Stmt := topS 10
abbrev s__law_cell : Stmt := topS 12
abbrev s__law_due : Stmt := topS 15
abbrev s__law_is_integer : Stmt := topS 14
abbrev s__law_refused : Stmt := topS 17
abbrev s_law : Stmt := topS 18
structure Ads where
  x_CodecError : Addr
  x_OutOfRange : Addr
  z0 : Addr
def excA (AD : Ads) : Nat → Addr
  | 0 => AD.x_CodecError
  | 1 => AD.x_OutOfRange
  | _ => AD.z0
structure Txt (K : PySem.W.Frag) (mg : Str → Option Value) (AD : Ads) : Prop where
  g_GREATEST_QUANTIZER : ∃ u, mg "GREATEST_QUANTIZER" = some u ∧ RelV (V.int 31) u
  b_int : mg "int" = none
  b_range : mg "range" = none
  b_max : mg "max" = none
  b_min : mg "min" = none
  b_abs : mg "abs" = none
  b_len : mg "len" = none
  b_isinstance : mg "isinstance" = none
  b_bool : mg "bool" = none
  b_tuple : mg "tuple" = none
  xg_OutOfRange : mg "OutOfRange" = some (.ref AD.x_OutOfRange)
  xx_OutOfRange : PySem.W.excIn K AD.x_OutOfRange [.type "ValueError", .type "Exception", .type "BaseException", .type "object"] "ValueError.__new__" = true
  xk_OutOfRange : PySem.W.keepIn K (.ref AD.x_OutOfRange) = true
  xb_OutOfRange : PySem.W.subIn K (.ref AD.x_OutOfRange) (.type "BaseException") = some true
  xt_OutOfRange : PySem.W.typeIn K (.ref AD.x_OutOfRange) = some (.type "type")
  xm_OutOfRange_OutOfRange : PySem.W.exmOne K (.ref AD.x_OutOfRange) (.ref AD.x_OutOfRange) = some true
abbrev pat_step_of_0 : Pat := (1, [], fun vs _ => vs)
abbrev pats_step_of : List Pat := [pat_step_of_0]
abbrev pat_edge_limit_0 : Pat := (3, [], fun vs _ => vs)
abbrev pats_edge_limit : List Pat := [pat_edge_limit_0]
abbrev pat__law_digits_0 : Pat := (3, [], fun vs _ => vs)
abbrev pats__law_digits : List Pat := [pat__law_digits_0]
abbrev pat__law_samples_0 : Pat := (2, [], fun vs _ => vs)
abbrev pats__law_samples : List Pat := [pat__law_samples_0]
abbrev pat_clip_0 : Pat := (3, [], fun vs _ => vs)
abbrev pats_clip : List Pat := [pat_clip_0]
abbrev pat_smooth_edge_0 : Pat := (4, ["limit", "top"], fun vs zs => match vs, zs with | [a0, a1, a2, a3], [b0, b1] => [a0, a1, a2, a3, b0, b1] | _, _ => [])
abbrev pats_smooth_edge : List Pat := [pat_smooth_edge_0]
abbrev pat__law_cell_0 : Pat := (2, [], fun vs _ => vs)
abbrev pats__law_cell : List Pat := [pat__law_cell_0]
abbrev pat__law_due_0 : Pat := (6, [], fun vs _ => vs)
abbrev pats__law_due : List Pat := [pat__law_due_0]
abbrev pat__law_is_integer_0 : Pat := (1, [], fun vs _ => vs)
abbrev pats__law_is_integer : List Pat := [pat__law_is_integer_0]
abbrev pat__law_refused_0 : Pat := (2, [], fun vs _ => vs)
abbrev pats__law_refused : List Pat := [pat__law_refused_0]
abbrev pats_law : List Pat := []
def sp_step_of (K : PySem.W.Frag) (AD : Ads) : Sp := fun vs H Q E => ∃ (G : Hp) (quantizer' : Int), vs = [.int quantizer'] ∧ Same G H ∧ cW (F_step_of quantizer') (fun v => Q (.int v) H) (fun e => E (.ref (excA AD e)) none H)
def sp_edge_limit (K : PySem.W.Frag) (AD : Ads) : Sp := fun vs H Q E => ∃ (G : Hp) (first' : Int) (second' : Int) (edge' : Int), vs = [.int first', .int second', .int edge'] ∧ Same G H ∧ cW (F_edge_limit first' second' edge') (fun v => Q (.int v) H) (fun e => E (.ref (excA AD e)) none H)
def sp__law_digits (K : PySem.W.Frag) (AD : Ads) : Sp := fun vs H Q E => ∃ (G : Hp) (cell' : Int) (base' : Int) (most' : Int), vs = [.int cell', .int base', .int most'] ∧ Same G H ∧ cW (F__law_digits cell' base' most') (fun v => ∀ p H', H p = none → Same H H' → H' p = some (.lst (v.map V.int)) → Q (.ref p) H') (fun e => ∀ H', Same H H' → E (.ref (excA AD e)) none H')
def sp__law_samples (K : PySem.W.Frag) (AD : Ads) : Sp := fun vs H Q E => ∃ (G : Hp) (cell' : Int) (top' : Int), vs = [.int cell', .int top'] ∧ Same G H ∧ cW (F__law_samples cell' top') (fun v => ∀ p H', H p = none → Same H H' → H' p = some (.lst (v.map V.int)) → Q (.ref p) H') (fun e => ∀ H', Same H H' → E (.ref (excA AD e)) none H')
def sp_clip (K : PySem.W.Frag) (AD : Ads) : Sp := fun vs H Q E => ∃ (G : Hp) (value' : Int) (low' : Int) (high' : Int), vs = [.int value', .int low', .int high'] ∧ Same G H ∧ cW (F_clip value' low' high') (fun v => Q (.int v) H) (fun e => E (.ref (excA AD e)) none H)
def sp_smooth_edge (K : PySem.W.Frag) (AD : Ads) : Sp := fun vs H Q E => ∃ (G : Hp) (a1' : Int) (a0' : Int) (b0' : Int) (b1' : Int) (limit' : Int) (top' : Int), vs = [.int a1', .int a0', .int b0', .int b1', .int limit', .int top'] ∧ Same G H ∧ cW (F_smooth_edge a1' a0' b0' b1' limit' top') (fun v => ∀ u H' G', Same H H' → Same G G' → Same G' H' → (∀ b, H b ≠ none → G b = none → G' b = none) → Rp G' u ((encT2 PyData.int PyData.int) v) → Q u H') (fun e => ∀ H', Same H H' → E (.ref (excA AD e)) none H')
def sp__law_cell (K : PySem.W.Frag) (AD : Ads) : Sp := fun vs H Q E => ∃ (G : Hp) (a_script : Addr) (script' : List Int) (k' : Int), vs = [.ref a_script, .int k'] ∧ Same G H ∧ SqL K H a_script ((script' : List Int).map V.int) ∧ cW (F__law_cell script' k') (fun v => Q (.int v) H) (fun e => E (.ref (excA AD e)) none H)
def sp__law_due (K : PySem.W.Frag) (AD : Ads) : Sp := fun vs H Q E => ∃ (G : Hp) (a1' : Int) (a0' : Int) (b0' : Int) (b1' : Int) (limit' : Int) (top' : Int), vs = [.int a1', .int a0', .int b0', .int b1', .int limit', .int top'] ∧ Same G H ∧ cW (F__law_due a1' a0' b0' b1' limit' top') (fun v => ∀ u H' G', Same H H' → Same G G' → Same G' H' → (∀ b, H b ≠ none → G b = none → G' b = none) → Rp G' u ((encT2 PyData.int PyData.int) v) → Q u H') (fun e => ∀ H', Same H H' → E (.ref (excA AD e)) none H')
def sp__law_is_integer (K : PySem.W.Frag) (AD : Ads) : Sp := fun vs H Q E => ∃ (G : Hp) (actual' : Int), vs = [.int actual'] ∧ Same G H ∧ cW (F__law_is_integer actual') (fun v => Q (.bl v) H) (fun e => E (.ref (excA AD e)) none H)
def sp__law_refused (K : PySem.W.Frag) (AD : Ads) : Sp := fun vs H Q E => ∃ (G : Hp) (first' : Int) (second' : Int), vs = [.int first', .int second'] ∧ Same G H ∧ cW (F__law_refused first' second') (fun v => ∀ H', Same H H' → Q (.bl v) H') (fun e => ∀ H', Same H H' → E (.ref (excA AD e)) none H')
def sp_law (K : PySem.W.Frag) (AD : Ads) : Sp := fun vs H Q E => ∃ (a_script : Addr) (script : List Int), vs = [.ref a_script] ∧ SqL K H a_script (script.map V.int) ∧ cW (F_law script) (fun v => v = true) (fun _ => False) ∧ ∀ H', Q (.bl true) H'
section
variable {P : Program} {w : World} {K : PySem.W.Frag} {mg : Str → Option Value} {base : Heap} {AD : Ads}
abbrev N_step_of : List Str := ["quantizer"]
theorem sc_step_of : FnScope N_step_of ["quantizer"] (defScope s_step_of) := ⟨rfl, rfl, rfl, by decide +kernel, rfl, by decide +kernel, by decide +kernel⟩
theorem ok_step_of (D : DefX K mg "step_of" s_step_of ["quantizer"] pats_step_of) (T : Txt K mg AD)  : CalX P w K mg base 1 "step_of" (sp_step_of K AD) pats_step_of := by
  refine D.ok sc_step_of (fun vs H Q E h => ?_) (fun f cdv A_ outer s H vs Q E hr h => ?_)
  · obtain ⟨G, quantizer', rfl, _⟩ := h
    rfl
  · obtain ⟨G, quantizer', rfl, sG, hw⟩ := h
    refine ⟨_, (pss_cons (ps_if (pt_not (pt_chain op_le op_le pe_int (pv 0) (C8.pe_gc rfl T.g_GREATEST_QUANTIZER))) (pss_one (ps_raise rfl (takes_of rfl rfl rfl rfl) (pmk_own PySem.F.excBase_ValueError T.xx_OutOfRange T.xg_OutOfRange T.xk_OutOfRange (raises_own T.xb_OutOfRange T.xt_OutOfRange) rfl))) pss_nil)
      (pss_one (ps_ret (pe_op op_add (pe_op op_add pe_int (pv 0)) (pe_op op_fdivW (pe_op op_mul (pv 0) (pv 0)) pe_int))))), ?_⟩
    obtain ⟨KK, EE, hK0, hE, hw⟩ := cW_gen hw
    have S0 := Sep.startG sG
    unfold F_step_of at hw
    refine ⟨_, rfl, _, _, rfl, rfl, _, rfl, ?_⟩
    refine iteD (fun c1 => ?_) (fun c1 => ?_)
    · have hw := cW_pos c1 hw
      refine ⟨_, _, rfl, rfl, _, rfl, ?_⟩
      refine iteN (fun c2 => ?_) (fun c2 => ?_)
      · have hw := cW_neg c2 hw
        exact hE 1 (cW_er hw)
      · have hw := cW_pos c2 hw
        obtain ⟨g3, hw⟩ := cW_grd hw
        refine ⟨_, rfl, _, _, rfl, rfl, _, rfl, _, rfl, _, _, rfl, rfl, g3, _, _, rfl, rfl, (divW_lit (by decide) (by decide)), _, _, rfl, rfl, ?_⟩
        have hw := cW_ok hw
        exact hK0 _ hw
    · have hw := cW_neg c1 hw
      refine ⟨_, rfl, ?_⟩
      refine iteT ?_
      exact hE 1 (cW_er hw)

abbrev N_edge_limit : List Str := ["first", "second", "edge"]
theorem sc_edge_limit : FnScope N_edge_limit ["first", "second", "edge"] (defScope s_edge_limit) := ⟨rfl, rfl, rfl, by decide +kernel, rfl, by decide +kernel, by decide +kernel⟩
theorem ok_edge_limit (D : DefX K mg "edge_limit" s_edge_limit ["first", "second", "edge"] pats_edge_limit) (T : Txt K mg AD) (c_step_of : CalX P w K mg base 1 "step_of" (sp_step_of K AD) pats_step_of) : CalX P w K mg base 2 "edge_limit" (sp_edge_limit K AD) pats_edge_limit := by
  refine D.ok sc_edge_limit (fun vs H Q E h => ?_) (fun f cdv A_ outer s H vs Q E hr h => ?_)
  · obtain ⟨G, first', second', edge', rfl, _⟩ := h
    rfl
  · obtain ⟨G, first', second', edge', rfl, sG, hw⟩ := h
    refine ⟨_, (pss_one (ps_ret (pe_op op_shr (pe_op op_mul (vx_callX c_step_of pat_step_of_0 (.head _) hr (by decide) (takes_of rfl rfl rfl rfl) rfl (pa_cons (pe_op op_shr (pe_op op_add (pv 0) (pv 1)) pe_int) pa_nil) pk_nil) (pe_op op_add pe_int (pv 2))) pe_int))), ?_⟩
    obtain ⟨KK, EE, hK0, hE, hw⟩ := cW_gen hw
    have S0 := Sep.startG sG
    unfold F_edge_limit at hw
    refine ⟨_, rfl, _, rfl, _, _, rfl, rfl, _, _, rfl, rfl, (show (0 : Int) ≤ 1 by decide), rfl, rfl, G, _, rfl, S0.sG, cW_call hw (fun v4 hw => ?_) (fun e he => hE e he)⟩
    obtain ⟨g5, hw⟩ := cW_grd hw
    refine ⟨_, rfl, _, _, rfl, rfl, _, _, rfl, rfl, g5, _, _, rfl, rfl, (show (0 : Int) ≤ 4 by decide), ?_⟩
    have hw := cW_ok hw
    exact hK0 _ hw

abbrev N__law_digits : List Str := ["cell", "base", "most", "digits", "large", "k"]
theorem sc__law_digits : FnScope N__law_digits ["cell", "base", "most"] (defScope s__law_digits) := ⟨rfl, rfl, rfl, by decide +kernel, rfl, by decide +kernel, by decide +kernel⟩
theorem ok__law_digits (D : DefX K mg "_law_digits" s__law_digits ["cell", "base", "most"] pats__law_digits) (T : Txt K mg AD)  : CalX P w K mg base 1 "_law_digits" (sp__law_digits K AD) pats__law_digits := by
  refine D.ok sc__law_digits (fun vs H Q E h => ?_) (fun f cdv A_ outer s H vs Q E hr h => ?_)
  · obtain ⟨G, cell', base', most', rfl, _⟩ := h
    rfl
  · obtain ⟨G, cell', base', most', rfl, sG, hw⟩ := h
    refine ⟨_, (pss_cons (ps_set (i := 3) sc__law_digits.nd rfl (Or.inl rfl) (pe_lst pa_nil))
      (pss_cons (ps_set (i := 4) sc__law_digits.nd rfl (Or.inl rfl) (pe_cmp (pc_ge (pv 0) (pe_op op_pow pe_int pe_int))))
      (pss_cons (ps_for (passes_of rfl) rfl (pi_range1 rfl T.b_range (pa_cons (pv 2) pa_nil)) (pg_name (i := 5) sc__law_digits.nd rfl (Or.inl rfl)) (pss_one (ps_if (pt_val (pv 4)) (pss_cons (ps_expr (pe_bm PySem.F.plainAttrs_list PySem.F.slot_list_append PySem.F.type_list_append mt_append (pv 3) (pa_cons (pe_op op_mod (pe_callTy call_int1 (by rfl) T.b_int (by decide +kernel) (pa_cons (pv 0) pa_nil)) (pv 1)) pa_nil)))
      (pss_one (ps_set (i := 0) sc__law_digits.nd rfl (Or.inl rfl) (pe_op op_fdivW (pv 0) (pv 1))))) (pss_one (ps_expr (pe_bm PySem.F.plainAttrs_list PySem.F.slot_list_append PySem.F.type_list_append mt_append (pv 3) (pa_cons (pe_op op_mod (pe_op op_mod (pe_callTy call_int1 (by rfl) T.b_int (by decide +kernel) (pa_cons (pe_op op_add (pe_op op_add (pe_op op_mul (pv 0) pe_int) (pe_op op_mul (pe_op op_mul (pe_op op_add (pv 5) pe_int) (pe_op op_add (pv 5) pe_int)) pe_int)) (pe_op op_mul (pe_op op_fdivW (pv 0) pe_int) (pv 5))) pa_nil)) pe_int) (pv 1)) pa_nil)))))))
      (pss_one (ps_ret (pv 3)))))), ?_⟩
    obtain ⟨KK, EE, hK0, hE, hw⟩ := cW_gen hw
    have S0 := Sep.startG sG
    unfold F__law_digits at hw
    refine ⟨(by show 0 ≤ sizeLine; decide), fun p6 n7 => ?_⟩
    generalize g8 : upd H p6 _ = H9
    obtain ⟨e10, h11⟩ := gen_new n7 g8
    have h12 : H9 p6 = some (.lst (([] : (List Int)).map V.int)) := h11
    have fr13 := S0.free n7
    have S14 := S0.new n7 e10 h12 fr13
    refine ⟨_, rfl, _, _, rfl, rfl, ⟨by decide, by decide, by decide⟩, _, _, rfl, rfl, ?_⟩
    have hw := cW_bnd hw
    obtain ⟨g16, hw⟩ := cW_grd hw
    obtain ⟨K19, hK20, hw⟩ := cW_push hw
    refine ⟨_, rfl, _, rfl, g16.1, g16.2, for_range (lo := 0) (n := Int.toNat (most')) (fun i σ H' => ∃ (cell_21 : Int) (digits_22 : (List Int)) (u23 : Option V) (G' : Hp), σ = [some (V.int cell_21), some (V.int (base')), some (V.int (most')), some (V.ref p6), some (V.bl (decide (((10 : Int) ^ Int.toNat 18) ≤ cell'))), u23] ∧ Same G G' ∧ Sep [] H G G' H' [p6] ∧ H' p6 = some (.lst ((digits_22 : (List Int)).map V.int)) ∧ cW (forS (List.drop i (rng (0) (Int.toNat (most')))) (cell_21, digits_22) (fun s x => F__law_digits_b1 (base') (decide (((10 : Int) ^ Int.toNat 18) ≤ cell')) (s.1) (s.2) x)) K19 EE) ?_ ?_ ?_⟩
    · exact ⟨(cell'), ([]), _, _, rfl, (Same.refl _), S14, h12, hw⟩
    · intro i σ H24 hi hw
      obtain ⟨cell_21, digits_22, u23, G27, rfl, eG28, S25, h26, hw⟩ := hw
      have hw := cW_forS (rng_get hi) hw
      generalize (0 + (i : Int)) = x29 at hw ⊢
      have hw : cW (F__law_digits_b1 (base') (decide (((10 : Int) ^ Int.toNat 18) ≤ cell')) (cell_21) (digits_22) (x29)) _ EE := hw
      unfold F__law_digits_b1 at hw
      obtain ⟨K32, hK33, hw⟩ := cW_name hw
      refine ⟨_, rfl, _, rfl, ?_⟩
      refine iteB (fun c35 => ?_) (fun c35 => ?_)
      · have hw := cW_pos c35 hw
        refine ⟨_, rfl, (.inl ⟨rfl, _, SqL.of h26⟩), _, rfl, .inl ⟨_, rfl, ?_⟩⟩
        obtain ⟨g36, hw⟩ := cW_grd hw
        obtain ⟨g37, hw⟩ := cW_grd hw
        refine ⟨_, rfl, _, _, rfl, rfl, g36, _, _, _, rfl, rfl, h26, (app_lenM g37), ?_⟩
        generalize g38 : upd H24 p6 _ = H39
        obtain ⟨x40, h41⟩ := gen_mut g38
        have h42 : H39 p6 = some (.lst (((digits_22) ++ [(cell_21 % base')] : (List Int)).map V.int)) := snoc_map h41
        have S43 := S25.mut1 x40 (.head _) h42
        have hw := cW_bnd hw
        obtain ⟨g45, hw⟩ := cW_grd hw
        refine ⟨_, rfl, _, rfl, _, _, rfl, rfl, (divW_small g45.1 g45.2), ?_⟩
        have hw := cW_bnd hw
        have hw := cW_ok hw
        have hw := hK33 _ hw
        exact ⟨((cell_21 / base')), ((digits_22) ++ [(cell_21 % base')]), _, _, rfl, eG28, S43, h42, hw⟩
      · have hw := cW_negB c35 hw
        obtain ⟨g47, hw⟩ := cW_grd hw
        obtain ⟨g48, hw⟩ := cW_grd hw
        refine ⟨_, rfl, (.inl ⟨rfl, _, SqL.of h26⟩), _, rfl, _, _, rfl, rfl, (.inr ⟨by decide, by decide⟩), _, rfl, _, _, rfl, rfl, _, rfl, _, _, rfl, rfl, _, _, rfl, rfl, g47, _, _, rfl, rfl, (.inr ⟨by decide, by decide⟩), _, _, rfl, rfl, _, rfl, _, _, rfl, rfl, (divW_lit (by decide) (by decide)), _, rfl, _, _, rfl, rfl, g48, _, _, rfl, rfl, .inl ⟨_, rfl, ?_⟩⟩
        obtain ⟨g49, hw⟩ := cW_grd hw
        obtain ⟨g50, hw⟩ := cW_grd hw
        refine ⟨_, _, rfl, rfl, (show (0 : Int) < 2147483647 by decide), _, rfl, _, _, rfl, rfl, g49, _, _, _, rfl, rfl, h26, (app_lenM g50), ?_⟩
        generalize g51 : upd H24 p6 _ = H52
        obtain ⟨x53, h54⟩ := gen_mut g51
        have h55 : H52 p6 = some (.lst (((digits_22) ++ [(((((cell_21 * 48271) + (((x29 + 1) * (x29 + 5)) * 69621)) + ((cell_21 / 97) * x29)) % 2147483647) % base')] : (List Int)).map V.int)) := snoc_map h54
        have S56 := S25.mut1 x53 (.head _) h55
        have hw := cW_bnd hw
        have hw := cW_ok hw
        have hw := hK33 _ hw
        exact ⟨(cell_21), ((digits_22) ++ [(((((cell_21 * 48271) + (((x29 + 1) * (x29 + 5)) * 69621)) + ((cell_21 / 97) * x29)) % 2147483647) % base')]), _, _, rfl, eG28, S56, h55, hw⟩
    · intro σ H58 hw
      obtain ⟨cell_21, digits_22, u23, G61, rfl, eG62, S59, h60, hw⟩ := hw
      have hw := hK20 _ (cW_forS0 (rng_len _ _).symm hw)
      have hw : cW (F__law_digits_r1  (cell_21) (digits_22)) _ EE := hw
      unfold F__law_digits_r1 at hw
      refine ⟨_, rfl, ?_⟩
      have hw := cW_ok hw
      exact hK0 _ hw _ _ fr13 S59.b0 h60

abbrev N__law_samples : List Str := ["cell", "top", "base", "samples", "digit"]
theorem sc__law_samples : FnScope N__law_samples ["cell", "top"] (defScope s__law_samples) := ⟨rfl, rfl, rfl, by decide +kernel, rfl, by decide +kernel, by decide +kernel⟩
theorem ok__law_samples (D : DefX K mg "_law_samples" s__law_samples ["cell", "top"] pats__law_samples) (T : Txt K mg AD) (c__law_digits : CalX P w K mg base 1 "_law_digits" (sp__law_digits K AD) pats__law_digits) : CalX P w K mg base 2 "_law_samples" (sp__law_samples K AD) pats__law_samples := by
  refine D.ok sc__law_samples (fun vs H Q E h => ?_) (fun f cdv A_ outer s H vs Q E hr h => ?_)
  · obtain ⟨G, cell', top', rfl, _⟩ := h
    rfl
  · obtain ⟨G, cell', top', rfl, sG, hw⟩ := h
    refine ⟨_, (pss_cons (ps_if (pt_cmp (pc_eqI (pe_op op_mod (pv 0) pe_int) pe_int)) (pss_one (ps_ret (vx_callX c__law_digits pat__law_digits_0 (.head _) hr (by decide) (takes_of rfl rfl rfl rfl) rfl (pa_cons (pe_op op_fdivW (pv 0) pe_int) (pa_cons (pe_op op_add (pv 1) pe_int) (pa_cons pe_int pa_nil))) pk_nil))) pss_nil)
      (pss_cons (ps_set (i := 2) sc__law_samples.nd rfl (Or.inl rfl) (pe_op op_mod (pe_op op_fdivW (pv 0) pe_int) (pe_op op_add (pv 1) pe_int)))
      (pss_cons (ps_set (i := 3) sc__law_samples.nd rfl (Or.inl rfl) (pe_lst pa_nil))
      (pss_cons (ps_for (passes_of rfl) rfl (pi_listK (K := K) (vx_callX c__law_digits pat__law_digits_0 (.head _) hr (by decide) (takes_of rfl rfl rfl rfl) rfl (pa_cons (pe_op op_fdivW (pv 0) pe_int) (pa_cons pe_int (pa_cons pe_int pa_nil))) pk_nil)) (pg_name (i := 4) sc__law_samples.nd rfl (Or.inl rfl)) (pss_one (ps_expr (pe_bm PySem.F.plainAttrs_list PySem.F.slot_list_append PySem.F.type_list_append mt_append (pv 3) (pa_cons (pe_callB (call_max2 rfl) (by rfl) T.b_max (by decide +kernel) (pa_cons pe_int (pa_cons (pe_callB (call_min2 rfl) (by rfl) T.b_min (by decide +kernel) (pa_cons (pv 1) (pa_cons (pe_op op_sub (pe_op op_add (pv 2) (pv 4)) pe_int) pa_nil))) pa_nil))) pa_nil)))))
      (pss_one (ps_ret (pv 3))))))), ?_⟩
    obtain ⟨KK, EE, hK0, hE, hw⟩ := cW_gen hw
    have S0 := Sep.startG sG
    unfold F__law_samples at hw
    refine ⟨_, rfl, _, _, rfl, rfl, (show (0 : Int) < 3 by decide), _, _, rfl, rfl, _, rfl, ?_⟩
    refine iteD (fun c65 => ?_) (fun c65 => ?_)
    · have hw := cW_pos c65 hw
      refine ⟨_, rfl, _, _, rfl, rfl, (divW_lit (by decide) (by decide)), _, rfl, _, _, rfl, rfl, rfl, rfl, G, _, _, _, rfl, S0.sG, cW_call hw (fun v66 hw p69 H67 n70 e68 h71 => ?_) (fun e he H2 e2 => hE e he H2 (Same.trans S0.b0 e2))⟩
      have h72 : H67 p69 = some (.lst ((v66 : (List Int)).map V.int)) := h71
      have fr73 := S0.free n70
      have S74 := S0.new n70 e68 h72 fr73
      have hw := cW_ok hw
      exact hK0 _ hw _ _ fr73 S74.b0 h72
    · have hw := cW_neg c65 hw
      obtain ⟨g75, hw⟩ := cW_grd hw
      refine ⟨_, rfl, _, _, rfl, rfl, (divW_lit (by decide) (by decide)), _, rfl, _, _, rfl, rfl, _, _, rfl, rfl, g75, ?_⟩
      have hw := cW_bnd hw
      refine ⟨(by show 0 ≤ sizeLine; decide), fun p77 n78 => ?_⟩
      generalize g79 : upd H p77 _ = H80
      obtain ⟨e81, h82⟩ := gen_new n78 g79
      have h83 : H80 p77 = some (.lst (([] : (List Int)).map V.int)) := h82
      have fr84 := S0.free n78
      have S85 := S0.new n78 e81 h83 fr84
      refine ⟨_, rfl, _, _, rfl, rfl, (divW_lit (by decide) (by decide)), rfl, rfl, G, _, _, _, rfl, S85.sG, cW_call hw (fun v86 hw p89 H87 n90 e88 h91 => ?_) (fun e he H2 e2 => hE e he H2 (Same.trans S85.b0 e2))⟩
      have h92 : H87 p89 = some (.lst ((v86 : (List Int)).map V.int)) := h91
      have fr93 := S85.free n90
      have S94 := S85.new n90 e88 h92 fr93
      obtain ⟨K97, hK98, hw⟩ := cW_push hw
      refine ⟨_, rfl, ⟨_, (SqL.of h92)⟩, for_list (K := K) (a := p89) (xs := (v86 : (List Int)).map V.int) (fun i σ H' => ∃ (samples_99 : (List Int)) (u100 : Option V) (G' : Hp), σ = [some (V.int (cell')), some (V.int (top')), some (V.int (((cell' / 3) % (top' + 1)))), some (V.ref p77), u100] ∧ Same G G' ∧ Sep [] H G G' H' [p77, p89] ∧ H' p77 = some (.lst ((samples_99 : (List Int)).map V.int)) ∧ H' p89 = some (.lst ((v86 : (List Int)).map V.int)) ∧ cW (forS (List.drop i (v86)) samples_99 (fun s x => F__law_samples_b1 (top') (((cell' / 3) % (top' + 1))) s x)) K97 EE) ?_ ?_ ?_ ?_⟩
      · have h101 := (e88 _ _ h83)
        exact ⟨([]), _, _, rfl, (Same.refl _), (S94.sub (all_cons (.tail _ (.head _)) (all_cons (.head _) all_nil))), h101, h92, hw⟩
      · intro i σ H102 _ hw
        obtain ⟨samples_99, u100, G106, rfl, eG107, S103, h104, h105, hw⟩ := hw
        exact (SqL.of h105)
      · intro i x σ H108 hj hw
        obtain ⟨samples_99, u100, G112, rfl, eG113, S109, h110, h111, hw⟩ := hw
        obtain ⟨x114, hx, rfl⟩ := map_get hj
        have hw := cW_forS hx hw
        have hw : cW (F__law_samples_b1 (top') (((cell' / 3) % (top' + 1))) (samples_99) (x114)) _ EE := hw
        unfold F__law_samples_b1 at hw
        obtain ⟨K116, hK117, hw⟩ := cW_name hw
        obtain ⟨g119, hw⟩ := cW_grd hw
        refine ⟨_, rfl, (.inl ⟨rfl, _, SqL.of h110⟩), _, rfl, _, rfl, _, rfl, _, _, rfl, rfl, _, _, rfl, rfl, _, _, rfl, _, _, rfl, _, _, _, rfl, rfl, h110, (app_lenM g119), ?_⟩
        generalize g120 : upd H108 p77 _ = H121
        obtain ⟨x122, h123⟩ := gen_mut g120
        have h124 : H121 p77 = some (.lst (((samples_99) ++ [(if (if ((((cell' / 3) % (top' + 1)) + x114) - 20) < top' then ((((cell' / 3) % (top' + 1)) + x114) - 20) else top') > 0 then (if ((((cell' / 3) % (top' + 1)) + x114) - 20) < top' then ((((cell' / 3) % (top' + 1)) + x114) - 20) else top') else 0)] : (List Int)).map V.int)) := snoc_map h123
        have S125 := S109.mut1 x122 (.head _) h124
        have hw := cW_bnd hw
        have hw := cW_ok hw
        have hw := hK117 _ hw
        have h127 := (x122 _ _ h111 (ne_of_none h83 n90).symm)
        exact ⟨((samples_99) ++ [(if (if ((((cell' / 3) % (top' + 1)) + x114) - 20) < top' then ((((cell' / 3) % (top' + 1)) + x114) - 20) else top') > 0 then (if ((((cell' / 3) % (top' + 1)) + x114) - 20) < top' then ((((cell' / 3) % (top' + 1)) + x114) - 20) else top') else 0)]), _, _, rfl, eG113, S125, h124, h127, hw⟩
      · intro σ H128 hw
        obtain ⟨samples_99, u100, G132, rfl, eG133, S129, h130, h131, hw⟩ := hw
        have hw := hK98 _ (cW_forS0 (by rw [List.length_map]) hw)
        have hw : cW (F__law_samples_r1  (samples_99)) _ EE := hw
        unfold F__law_samples_r1 at hw
        refine ⟨_, rfl, ?_⟩
        have hw := cW_ok hw
        exact hK0 _ hw _ _ fr84 S129.b0 h130

abbrev N_clip : List Str := ["value", "low", "high"]
theorem sc_clip : FnScope N_clip ["value", "low", "high"] (defScope s_clip) := ⟨rfl, rfl, rfl, by decide +kernel, rfl, by decide +kernel, by decide +kernel⟩
theorem ok_clip (D : DefX K mg "clip" s_clip ["value", "low", "high"] pats_clip) (T : Txt K mg AD)  : CalX P w K mg base 1 "clip" (sp_clip K AD) pats_clip := by
  refine D.ok sc_clip (fun vs H Q E h => ?_) (fun f cdv A_ outer s H vs Q E hr h => ?_)
  · obtain ⟨G, value', low', high', rfl, _⟩ := h
    rfl
  · obtain ⟨G, value', low', high', rfl, sG, hw⟩ := h
    refine ⟨_, (pss_one (ps_ret (pe_callB (call_min2 rfl) (by rfl) T.b_min (by decide +kernel) (pa_cons (pe_callB (call_max2 rfl) (by rfl) T.b_max (by decide +kernel) (pa_cons (pv 0) (pa_cons (pv 1) pa_nil))) (pa_cons (pv 2) pa_nil))))), ?_⟩
    obtain ⟨KK, EE, hK0, hE, hw⟩ := cW_gen hw
    have S0 := Sep.startG sG
    unfold F_clip at hw
    refine ⟨_, rfl, _, rfl, _, _, rfl, _, rfl, _, _, rfl, ?_⟩
    have hw := cW_ok hw
    exact hK0 _ hw

abbrev N_smooth_edge : List Str := ["a1", "a0", "b0", "b1", "limit", "top", "is_flat", "more"]
theorem sc_smooth_edge : FnScope N_smooth_edge ["a1", "a0", "b0", "b1", "limit", "top"] (defScope s_smooth_edge) := ⟨rfl, rfl, rfl, by decide +kernel, rfl, by decide +kernel, by decide +kernel⟩
theorem ok_smooth_edge (D : DefX K mg "smooth_edge" s_smooth_edge ["a1", "a0", "b0", "b1", "limit", "top"] pats_smooth_edge) (T : Txt K mg AD) (c_clip : CalX P w K mg base 1 "clip" (sp_clip K AD) pats_clip) : CalX P w K mg base 2 "smooth_edge" (sp_smooth_edge K AD) pats_smooth_edge := by
  refine D.ok sc_smooth_edge (fun vs H Q E h => ?_) (fun f cdv A_ outer s H vs Q E hr h => ?_)
  · obtain ⟨G, a1', a0', b0', b1', limit', top', rfl, _⟩ := h
    rfl
  · obtain ⟨G, a1', a0', b0', b1', limit', top', rfl, sG, hw⟩ := h
    refine ⟨_, (pss_cons (ps_set (i := 6) sc_smooth_edge.nd rfl (Or.inl rfl) (pe_and (pe_cmp (pc_lt (pe_callB call_abs (by rfl) T.b_abs (by decide +kernel) (pa_cons (pe_op op_sub (pv 0) (pv 1)) pa_nil)) (pv 4))) (pe_one (pe_cmp (pc_lt (pe_callB call_abs (by rfl) T.b_abs (by decide +kernel) (pa_cons (pe_op op_sub (pv 3) (pv 2)) pa_nil)) (pv 4))))))
      (pss_cons (ps_if (PW.pt (pw_or (pt_not (pt_val (pv 6))) (pw_or1 (pt_cmp (pc_ge (pe_callB call_abs (by rfl) T.b_abs (by decide +kernel) (pa_cons (pe_op op_sub (pv 1) (pv 2)) pa_nil)) (pe_op op_mul pe_int (pv 4))))))) (pss_one (ps_ret (pe_tup (pa_cons (pv 1) (pa_cons (pv 2) pa_nil))))) pss_nil)
      (pss_cons (ps_set (i := 7) sc_smooth_edge.nd rfl (Or.inl rfl) (vx_callX c_clip pat_clip_0 (.head _) hr (by decide) (takes_of rfl rfl rfl rfl) rfl (pa_cons (pe_op op_shr (pe_op op_add (pe_op op_sub (pe_op op_add (pe_op op_mul pe_int (pe_op op_sub (pv 2) (pv 1))) (pv 0)) (pv 3)) pe_int) pe_int) (pa_cons (pe_un un_neg (pv 4)) (pa_cons (pv 4) pa_nil))) pk_nil))
      (pss_one (ps_ret (pe_tup (pa_cons (vx_callX c_clip pat_clip_0 (.head _) hr (by decide) (takes_of rfl rfl rfl rfl) rfl (pa_cons (pe_op op_add (pv 1) (pv 7)) (pa_cons pe_int (pa_cons (pv 5) pa_nil))) pk_nil) (pa_cons (vx_callX c_clip pat_clip_0 (.head _) hr (by decide) (takes_of rfl rfl rfl rfl) rfl (pa_cons (pe_op op_sub (pv 2) (pv 7)) (pa_cons pe_int (pa_cons (pv 5) pa_nil))) pk_nil) pa_nil)))))))), ?_⟩
    obtain ⟨KK, EE, hK0, hE, hw⟩ := cW_gen hw
    have S0 := Sep.startG sG
    unfold F_smooth_edge at hw
    refine vv_and (a := decide ((if (a1' - a0') < 0 then -(a1' - a0') else (a1' - a0')) < limit')) (b := decide ((if (b1' - b0') < 0 then -(b1' - b0') else (b1' - b0')) < limit')) ?ha135 ?hb136 _ ?_
    case ha135 => exact (vv_cmp (vv_call1 (val_op (val_var rfl) (val_var rfl) (fun Q q => ⟨_, _, rfl, rfl, q⟩)) (fun Q q => ⟨_, rfl, q⟩)) (val_var rfl) (fun Q q => ⟨_, _, rfl, rfl, q⟩))
    case hb136 => exact (vv_cmp (vv_call1 (val_op (val_var rfl) (val_var rfl) (fun Q q => ⟨_, _, rfl, rfl, q⟩)) (fun Q q => ⟨_, rfl, q⟩)) (val_var rfl) (fun Q q => ⟨_, _, rfl, rfl, q⟩))
    have hw := cW_bnd hw
    refine ⟨_, rfl, _, rfl, ?_⟩
    refine iteBN (fun c138 => ?_) (fun c138 => ?_)
    · have hw := cW_negB c138 hw
      refine iteT ?_
      refine ⟨_, rfl, _, rfl, (by show 2 ≤ sizeLine; decide), fun p139 n140 => ?_⟩
      generalize g141 : upd H p139 _ = H142
      obtain ⟨e143, h144⟩ := gen_new n140 g141
      have h145 : H142 p139 = some (.tup [V.int (a0'), V.int (b0')]) := h144
      have fr146 := S0.free n140
      obtain ⟨G148, eG149, hg150, S147⟩ := S0.grow n140 e143 h145 fr146
      have hw := cW_ok hw
      exact hK0 _ hw _ _ _ S147.b0 S147.g0 S147.sG S147.gn (rp_mk2 hg150 (.int _) (.int _))
    · have hw := cW_pos c138 hw
      refine ⟨_, rfl, _, rfl, _, _, rfl, rfl, _, rfl, _, rfl, _, _, rfl, rfl, (.inl ⟨by decide, by decide⟩), _, _, rfl, rfl, _, rfl, ?_⟩
      refine iteD (fun c151 => ?_) (fun c151 => ?_)
      · have hw := cW_pos c151 hw
        refine ⟨_, rfl, _, rfl, (by show 2 ≤ sizeLine; decide), fun p152 n153 => ?_⟩
        generalize g154 : upd H p152 _ = H155
        obtain ⟨e156, h157⟩ := gen_new n153 g154
        have h158 : H155 p152 = some (.tup [V.int (a0'), V.int (b0')]) := h157
        have fr159 := S0.free n153
        obtain ⟨G161, eG162, hg163, S160⟩ := S0.grow n153 e156 h158 fr159
        have hw := cW_ok hw
        exact hK0 _ hw _ _ _ S160.b0 S160.g0 S160.sG S160.gn (rp_mk2 hg163 (.int _) (.int _))
      · have hw := cW_neg c151 hw
        refine ⟨_, rfl, _, rfl, _, _, rfl, rfl, _, _, rfl, rfl, (.inl ⟨by decide, by decide⟩), _, rfl, _, _, rfl, rfl, _, rfl, _, _, rfl, rfl, _, _, rfl, rfl, _, _, rfl, rfl, (show (0 : Int) ≤ 3 by decide), _, rfl, _, rfl, _, rfl, rfl, rfl, G, _, _, _, rfl, S0.sG, cW_call hw (fun v164 hw => ?_) (fun e he => hE e he _ S0.b0)⟩
        refine ⟨_, rfl, _, rfl, _, _, rfl, rfl, _, rfl, rfl, rfl, G, _, _, _, rfl, S0.sG, cW_call hw (fun v165 hw => ?_) (fun e he => hE e he _ S0.b0)⟩
        refine ⟨_, rfl, _, rfl, _, _, rfl, rfl, _, rfl, rfl, rfl, G, _, _, _, rfl, S0.sG, cW_call hw (fun v166 hw => ?_) (fun e he => hE e he _ S0.b0)⟩
        refine ⟨(by show 2 ≤ sizeLine; decide), fun p167 n168 => ?_⟩
        generalize g169 : upd H p167 _ = H170
        obtain ⟨e171, h172⟩ := gen_new n168 g169
        have h173 : H170 p167 = some (.tup [V.int (v165), V.int (v166)]) := h172
        have fr174 := S0.free n168
        obtain ⟨G176, eG177, hg178, S175⟩ := S0.grow n168 e171 h173 fr174
        have hw := cW_ok hw
        exact hK0 _ hw _ _ _ S175.b0 S175.g0 S175.sG S175.gn (rp_mk2 hg178 (.int _) (.int _))

abbrev N__law_cell : List Str := ["script", "k"]
theorem sc__law_cell : FnScope N__law_cell ["script", "k"] (defScope s__law_cell) := ⟨rfl, rfl, rfl, by decide +kernel, rfl, by decide +kernel, by decide +kernel⟩
theorem ok__law_cell (D : DefX K mg "_law_cell" s__law_cell ["script", "k"] pats__law_cell) (T : Txt K mg AD)  : CalX P w K mg base 1 "_law_cell" (sp__law_cell K AD) pats__law_cell := by
  refine D.ok sc__law_cell (fun vs H Q E h => ?_) (fun f cdv A_ outer s H vs Q E hr h => ?_)
  · obtain ⟨G, a_script, script', k', rfl, _⟩ := h
    rfl
  · obtain ⟨G, a_script, script', k', rfl, sG, q_script, hw⟩ := h
    refine ⟨_, (pss_cons (ps_if (pt_cmp (pc_lt (pv 1) (pe_callB (call_lenLiK (K := K)) (by rfl) T.b_len (by decide +kernel) (pa_cons (pv 0) pa_nil)))) (pss_one (ps_ret (pe_callB call_abs (by rfl) T.b_abs (by decide +kernel) (pa_cons (pe_callTy call_int1 (by rfl) T.b_int (by decide +kernel) (pa_cons (pe_ix (ix_listK (K := K)) (pv 0) (pv 1) (fun _ _ => rfl)) pa_nil)) pa_nil)))) pss_nil)
      (pss_one (ps_ret pe_int))), ?_⟩
    obtain ⟨KK, EE, hK0, hE, hw⟩ := cW_gen hw
    have S0 := Sep.startG sG
    unfold F__law_cell at hw
    refine ⟨_, rfl, _, rfl, _, _, rfl, (S0.b0.seq q_script), _, _, rfl, rfl, _, rfl, ?_⟩
    refine iteD (fun c179 => ?_) (fun c179 => ?_)
    · have hw := cW_pos c179 hw
      obtain ⟨g180, hw⟩ := cW_grd hw
      refine ⟨_, rfl, _, rfl, _, _, _, _, rfl, rfl, (S0.b0.seq q_script), (atI_map g180), .inl ⟨_, rfl, ?_⟩⟩
      refine ⟨_, rfl, ?_⟩
      have hw := cW_ok hw
      exact hK0 _ hw
    · have hw := cW_neg c179 hw
      have hw := cW_ok hw
      exact hK0 _ hw

abbrev N__law_due : List Str := ["a1", "a0", "b0", "b1", "limit", "top", "change"]
theorem sc__law_due : FnScope N__law_due ["a1", "a0", "b0", "b1", "limit", "top"] (defScope s__law_due) := ⟨rfl, rfl, rfl, by decide +kernel, rfl, by decide +kernel, by decide +kernel⟩
theorem ok__law_due (D : DefX K mg "_law_due" s__law_due ["a1", "a0", "b0", "b1", "limit", "top"] pats__law_due) (T : Txt K mg AD)  : CalX P w K mg base 1 "_law_due" (sp__law_due K AD) pats__law_due := by
  refine D.ok sc__law_due (fun vs H Q E h => ?_) (fun f cdv A_ outer s H vs Q E hr h => ?_)
  · obtain ⟨G, a1', a0', b0', b1', limit', top', rfl, _⟩ := h
    rfl
  · obtain ⟨G, a1', a0', b0', b1', limit', top', rfl, sG, hw⟩ := h
    refine ⟨_, (pss_cons (ps_if (PW.pt (pw_or (pt_cmp (pc_ge (pe_callB call_abs (by rfl) T.b_abs (by decide +kernel) (pa_cons (pe_op op_sub (pv 0) (pv 1)) pa_nil)) (pv 4))) (pw_or (pt_cmp (pc_ge (pe_callB call_abs (by rfl) T.b_abs (by decide +kernel) (pa_cons (pe_op op_sub (pv 3) (pv 2)) pa_nil)) (pv 4))) (pw_or1 (pt_cmp (pc_ge (pe_callB call_abs (by rfl) T.b_abs (by decide +kernel) (pa_cons (pe_op op_sub (pv 1) (pv 2)) pa_nil)) (pe_op op_mul pe_int (pv 4)))))))) (pss_one (ps_ret (pe_tup (pa_cons (pv 1) (pa_cons (pv 2) pa_nil))))) pss_nil)
      (pss_cons (ps_set (i := 6) sc__law_due.nd rfl (Or.inl rfl) (pe_op op_shr (pe_op op_add (pe_op op_sub (pe_op op_add (pe_op op_mul pe_int (pe_op op_sub (pv 2) (pv 1))) (pv 0)) (pv 3)) pe_int) pe_int))
      (pss_cons (ps_set (i := 6) sc__law_due.nd rfl (Or.inl rfl) (pe_callB (call_max2 rfl) (by rfl) T.b_max (by decide +kernel) (pa_cons (pe_op op_sub pe_int (pv 4)) (pa_cons (pe_callB (call_min2 rfl) (by rfl) T.b_min (by decide +kernel) (pa_cons (pv 4) (pa_cons (pv 6) pa_nil))) pa_nil))))
      (pss_one (ps_ret (pe_tup (pa_cons (pe_callB (call_max2 rfl) (by rfl) T.b_max (by decide +kernel) (pa_cons pe_int (pa_cons (pe_callB (call_min2 rfl) (by rfl) T.b_min (by decide +kernel) (pa_cons (pv 5) (pa_cons (pe_op op_add (pv 1) (pv 6)) pa_nil))) pa_nil))) (pa_cons (pe_callB (call_max2 rfl) (by rfl) T.b_max (by decide +kernel) (pa_cons pe_int (pa_cons (pe_callB (call_min2 rfl) (by rfl) T.b_min (by decide +kernel) (pa_cons (pv 5) (pa_cons (pe_op op_sub (pv 2) (pv 6)) pa_nil))) pa_nil))) pa_nil)))))))), ?_⟩
    obtain ⟨KK, EE, hK0, hE, hw⟩ := cW_gen hw
    have S0 := Sep.startG sG
    unfold F__law_due at hw
    refine ⟨_, rfl, _, rfl, _, _, rfl, rfl, _, rfl, _, rfl, _, _, rfl, rfl, _, rfl, ?_⟩
    refine iteD (fun c181 => ?_) (fun c181 => ?_)
    · have hw := cW_pos c181 hw
      refine iteT ?_
      refine ⟨_, rfl, _, rfl, (by show 2 ≤ sizeLine; decide), fun p182 n183 => ?_⟩
      generalize g184 : upd H p182 _ = H185
      obtain ⟨e186, h187⟩ := gen_new n183 g184
      have h188 : H185 p182 = some (.tup [V.int (a0'), V.int (b0')]) := h187
      have fr189 := S0.free n183
      obtain ⟨G191, eG192, hg193, S190⟩ := S0.grow n183 e186 h188 fr189
      have hw := cW_ok hw
      exact hK0 _ hw _ _ _ S190.b0 S190.g0 S190.sG S190.gn (rp_mk2 hg193 (.int _) (.int _))
    · have hw := cW_neg c181 hw
      refine ⟨_, rfl, _, rfl, _, _, rfl, rfl, _, rfl, _, rfl, _, _, rfl, rfl, _, rfl, ?_⟩
      refine iteD (fun c194 => ?_) (fun c194 => ?_)
      · have hw := cW_pos c194 hw
        refine iteT ?_
        refine ⟨_, rfl, _, rfl, (by show 2 ≤ sizeLine; decide), fun p195 n196 => ?_⟩
        generalize g197 : upd H p195 _ = H198
        obtain ⟨e199, h200⟩ := gen_new n196 g197
        have h201 : H198 p195 = some (.tup [V.int (a0'), V.int (b0')]) := h200
        have fr202 := S0.free n196
        obtain ⟨G204, eG205, hg206, S203⟩ := S0.grow n196 e199 h201 fr202
        have hw := cW_ok hw
        exact hK0 _ hw _ _ _ S203.b0 S203.g0 S203.sG S203.gn (rp_mk2 hg206 (.int _) (.int _))
      · have hw := cW_neg c194 hw
        refine ⟨_, rfl, _, rfl, _, _, rfl, rfl, _, rfl, _, rfl, _, _, rfl, rfl, (.inl ⟨by decide, by decide⟩), _, _, rfl, rfl, _, rfl, ?_⟩
        refine iteD (fun c207 => ?_) (fun c207 => ?_)
        · have hw := cW_pos c207 hw
          refine ⟨_, rfl, _, rfl, (by show 2 ≤ sizeLine; decide), fun p208 n209 => ?_⟩
          generalize g210 : upd H p208 _ = H211
          obtain ⟨e212, h213⟩ := gen_new n209 g210
          have h214 : H211 p208 = some (.tup [V.int (a0'), V.int (b0')]) := h213
          have fr215 := S0.free n209
          obtain ⟨G217, eG218, hg219, S216⟩ := S0.grow n209 e212 h214 fr215
          have hw := cW_ok hw
          exact hK0 _ hw _ _ _ S216.b0 S216.g0 S216.sG S216.gn (rp_mk2 hg219 (.int _) (.int _))
        · have hw := cW_neg c207 hw
          refine ⟨_, rfl, _, rfl, _, _, rfl, rfl, _, _, rfl, rfl, (.inl ⟨by decide, by decide⟩), _, rfl, _, _, rfl, rfl, _, rfl, _, _, rfl, rfl, _, _, rfl, rfl, _, _, rfl, rfl, (show (0 : Int) ≤ 3 by decide), ?_⟩
          have hw := cW_bnd hw
          refine ⟨_, rfl, _, _, rfl, rfl, _, rfl, _, rfl, _, _, rfl, _, _, rfl, ?_⟩
          have hw := cW_bnd hw
          refine ⟨_, rfl, _, rfl, _, rfl, _, _, rfl, rfl, _, _, rfl, _, _, rfl, _, rfl, _, rfl, _, rfl, _, _, rfl, rfl, _, _, rfl, _, _, rfl, (by show 2 ≤ sizeLine; decide), fun p222 n223 => ?_⟩
          generalize g224 : upd H p222 _ = H225
          obtain ⟨e226, h227⟩ := gen_new n223 g224
          have h228 : H225 p222 = some (.tup [V.int ((if (if (a0' + (if (if (((((3 * (b0' - a0')) + a1') - b1') + 4) / 8) < limit' then (((((3 * (b0' - a0')) + a1') - b1') + 4) / 8) else limit') > (0 - limit') then (if (((((3 * (b0' - a0')) + a1') - b1') + 4) / 8) < limit' then (((((3 * (b0' - a0')) + a1') - b1') + 4) / 8) else limit') else (0 - limit'))) < top' then (a0' + (if (if (((((3 * (b0' - a0')) + a1') - b1') + 4) / 8) < limit' then (((((3 * (b0' - a0')) + a1') - b1') + 4) / 8) else limit') > (0 - limit') then (if (((((3 * (b0' - a0')) + a1') - b1') + 4) / 8) < limit' then (((((3 * (b0' - a0')) + a1') - b1') + 4) / 8) else limit') else (0 - limit'))) else top') > 0 then (if (a0' + (if (if (((((3 * (b0' - a0')) + a1') - b1') + 4) / 8) < limit' then (((((3 * (b0' - a0')) + a1') - b1') + 4) / 8) else limit') > (0 - limit') then (if (((((3 * (b0' - a0')) + a1') - b1') + 4) / 8) < limit' then (((((3 * (b0' - a0')) + a1') - b1') + 4) / 8) else limit') else (0 - limit'))) < top' then (a0' + (if (if (((((3 * (b0' - a0')) + a1') - b1') + 4) / 8) < limit' then (((((3 * (b0' - a0')) + a1') - b1') + 4) / 8) else limit') > (0 - limit') then (if (((((3 * (b0' - a0')) + a1') - b1') + 4) / 8) < limit' then (((((3 * (b0' - a0')) + a1') - b1') + 4) / 8) else limit') else (0 - limit'))) else top') else 0)), V.int ((if (if (b0' - (if (if (((((3 * (b0' - a0')) + a1') - b1') + 4) / 8) < limit' then (((((3 * (b0' - a0')) + a1') - b1') + 4) / 8) else limit') > (0 - limit') then (if (((((3 * (b0' - a0')) + a1') - b1') + 4) / 8) < limit' then (((((3 * (b0' - a0')) + a1') - b1') + 4) / 8) else limit') else (0 - limit'))) < top' then (b0' - (if (if (((((3 * (b0' - a0')) + a1') - b1') + 4) / 8) < limit' then (((((3 * (b0' - a0')) + a1') - b1') + 4) / 8) else limit') > (0 - limit') then (if (((((3 * (b0' - a0')) + a1') - b1') + 4) / 8) < limit' then (((((3 * (b0' - a0')) + a1') - b1') + 4) / 8) else limit') else (0 - limit'))) else top') > 0 then (if (b0' - (if (if (((((3 * (b0' - a0')) + a1') - b1') + 4) / 8) < limit' then (((((3 * (b0' - a0')) + a1') - b1') + 4) / 8) else limit') > (0 - limit') then (if (((((3 * (b0' - a0')) + a1') - b1') + 4) / 8) < limit' then (((((3 * (b0' - a0')) + a1') - b1') + 4) / 8) else limit') else (0 - limit'))) < top' then (b0' - (if (if (((((3 * (b0' - a0')) + a1') - b1') + 4) / 8) < limit' then (((((3 * (b0' - a0')) + a1') - b1') + 4) / 8) else limit') > (0 - limit') then (if (((((3 * (b0' - a0')) + a1') - b1') + 4) / 8) < limit' then (((((3 * (b0' - a0')) + a1') - b1') + 4) / 8) else limit') else (0 - limit'))) else top') else 0))]) := h227
          have fr229 := S0.free n223
          obtain ⟨G231, eG232, hg233, S230⟩ := S0.grow n223 e226 h228 fr229
          have hw := cW_ok hw
          exact hK0 _ hw _ _ _ S230.b0 S230.g0 S230.sG S230.gn (rp_mk2 hg233 (.int _) (.int _))

abbrev N__law_is_integer : List Str := ["actual"]
theorem sc__law_is_integer : FnScope N__law_is_integer ["actual"] (defScope s__law_is_integer) := ⟨rfl, rfl, rfl, by decide +kernel, rfl, by decide +kernel, by decide +kernel⟩
theorem ok__law_is_integer (D : DefX K mg "_law_is_integer" s__law_is_integer ["actual"] pats__law_is_integer) (T : Txt K mg AD)  : CalX P w K mg base 1 "_law_is_integer" (sp__law_is_integer K AD) pats__law_is_integer := by
  refine D.ok sc__law_is_integer (fun vs H Q E h => ?_) (fun f cdv A_ outer s H vs Q E hr h => ?_)
  · obtain ⟨G, actual', rfl, _⟩ := h
    rfl
  · obtain ⟨G, actual', rfl, sG, hw⟩ := h
    refine ⟨_, (pss_one (ps_ret (pe_and (pe_callB call_isi (by rfl) T.b_isinstance (by decide +kernel) (pa_cons (pv 0) (pa_cons (pe_bltn (v := V.ty "int") (u := Value.type "int") (by rfl) T.b_int (by decide +kernel) rfl) pa_nil))) (pe_one (pe_not (pe_callB call_isi (by rfl) T.b_isinstance (by decide +kernel) (pa_cons (pv 0) (pa_cons (pe_bltn (v := V.ty "bool") (u := Value.type "bool") (by rfl) T.b_bool (by decide +kernel) rfl) pa_nil)))))))), ?_⟩
    obtain ⟨KK, EE, hK0, hE, hw⟩ := cW_gen hw
    have S0 := Sep.startG sG
    unfold F__law_is_integer at hw
    refine ⟨_, rfl, _, _, _, _, _, rfl, (.ty _), (.base (.int _)), rfl, _, rfl, ?_⟩
    refine iteT ?_
    refine ⟨_, rfl, _, _, _, _, _, rfl, (.ty _), (.base (.int _)), rfl, _, rfl, ?_⟩
    have hw := cW_ok hw
    exact hK0 _ hw

abbrev N__law_refused : List Str := ["first", "second"]
theorem sc__law_refused : FnScope N__law_refused ["first", "second"] (defScope s__law_refused) := ⟨rfl, rfl, rfl, by decide +kernel, rfl, by decide +kernel, by decide +kernel⟩
theorem ok__law_refused (D : DefX K mg "_law_refused" s__law_refused ["first", "second"] pats__law_refused) (T : Txt K mg AD) (c_edge_limit : CalX P w K mg base 2 "edge_limit" (sp_edge_limit K AD) pats_edge_limit) : CalX P w K mg base 3 "_law_refused" (sp__law_refused K AD) pats__law_refused := by
  refine D.ok sc__law_refused (fun vs H Q E h => ?_) (fun f cdv A_ outer s H vs Q E hr h => ?_)
  · obtain ⟨G, first', second', rfl, _⟩ := h
    rfl
  · obtain ⟨G, first', second', rfl, sG, hw⟩ := h
    refine ⟨_, (pss_cons (ps_try_only rfl rfl ⟨rfl, by decide, .inl T.xg_OutOfRange⟩ (takes_of rfl rfl rfl rfl) (fun W pn xe tk pse => (pss_one (ps_expr (vx_callX c_edge_limit pat_edge_limit_0 (.head _) hr (by decide) tk rfl (pa_cons (pv 0) (pa_cons (pv 1) (pa_cons pe_int pa_nil))) pk_nil)))) (fun a oe cls d pn _ _ => (pss_one (ps_ret pe_bl))))
      (pss_one (ps_ret pe_bl))), ?_⟩
    obtain ⟨KK, EE, hK0, hE, hw⟩ := cW_gen hw
    have S0 := Sep.startG sG
    unfold F__law_refused at hw
    refine ⟨_, rfl, _, rfl, rfl, rfl, G, _, _, _, rfl, S0.sG, cW_try hw (fun v234 hw => ?_) ?_⟩
    · have hw := cW_ok hw
      exact hK0 _ hw _ S0.b0
    · intro e hm hw
      obtain rfl := mem_one hm
      refine ⟨true, T.xm_OutOfRange_OutOfRange, fun _ _ _ => ?_, fun q => nomatch q⟩
      have hw := cW_ok hw
      exact hK0 _ hw _ S0.b0

abbrev N_law : List Str := ["script", "k", "cell", "top", "first", "second", "edge", "mean", "step", "due", "limit", "four", "pair", "far", "other"]
theorem sc_law : FnScope N_law ["script"] (defScope s_law) := ⟨rfl, rfl, rfl, by decide +kernel, rfl, by decide +kernel, by decide +kernel⟩
theorem ok_law {f : Addr} {fd : FuncData} (F : Fun K "law" "law" s_law f fd) (T : Txt K mg AD) (c__law_cell : CalX P w K mg base 1 "_law_cell" (sp__law_cell K AD) pats__law_cell) (c_edge_limit : CalX P w K mg base 2 "edge_limit" (sp_edge_limit K AD) pats_edge_limit) (c__law_is_integer : CalX P w K mg base 1 "_law_is_integer" (sp__law_is_integer K AD) pats__law_is_integer) (c__law_samples : CalX P w K mg base 2 "_law_samples" (sp__law_samples K AD) pats__law_samples) (c_smooth_edge : CalX P w K mg base 2 "smooth_edge" (sp_smooth_edge K AD) pats_smooth_edge) (c__law_due : CalX P w K mg base 1 "_law_due" (sp__law_due K AD) pats__law_due) (c__law_refused : CalX P w K mg base 3 "_law_refused" (sp__law_refused K AD) pats__law_refused) : FnOk P w K mg base CX0 4 f fd ["script"] (sp_law K AD) := by
  refine F.ok sc_law (fun vs H Q E h => ?_) (fun cdv A_ outer s H vs Q E hr h => ?_)
  · obtain ⟨a_script, script, rfl, _⟩ := h
    rfl
  · obtain ⟨a_script, script', rfl, q_script, hw, k⟩ := h
    refine ⟨_, (pss_cons (ps_for PassesOwn.never rfl (pi_range1 rfl T.b_range (pa_cons (pe_callB (call_min2 rfl) (by rfl) T.b_min (by decide +kernel) (pa_cons (pe_op op_add pe_int (pe_callB (call_lenLiK (K := K)) (by rfl) T.b_len (by decide +kernel) (pa_cons (pv 0) pa_nil))) (pa_cons pe_int pa_nil))) pa_nil)) (pg_name (i := 1) sc_law.nd rfl (Or.inl rfl)) (pss_cons (ps_set (i := 2) sc_law.nd rfl (Or.inl rfl) (pe_op op_add (vx_callX c__law_cell pat__law_cell_0 (.head _) hr (by decide) takes0 rfl (pa_cons (pv 0) (pa_cons (pv 1) pa_nil)) pk_nil) (pv 1)))
      (pss_cons (ps_set (i := 3) sc_law.nd rfl (Or.inl rfl) (pe_op op_sub (pe_op op_shlW pe_int (pe_op op_add pe_int (pe_op op_mod (pv 2) pe_int))) pe_int))
      (pss_cons (ps_set (i := 4) sc_law.nd rfl (Or.inl rfl) (pe_op op_mod (pe_op op_fdivW (pv 2) pe_int) pe_int))
      (pss_cons (ps_set (i := 5) sc_law.nd rfl (Or.inl rfl) (pe_op op_mod (pe_op op_fdivW (pv 2) pe_int) pe_int))
      (pss_cons (ps_set (i := 6) sc_law.nd rfl (Or.inl rfl) (pe_op op_sub (pe_op op_mod (pe_op op_fdivW (pv 2) pe_int) pe_int) pe_int))
      (pss_cons (ps_set (i := 7) sc_law.nd rfl (Or.inl rfl) (pe_op op_fdivW (pe_op op_add (pv 4) (pv 5)) pe_int))
      (pss_cons (ps_set (i := 8) sc_law.nd rfl (Or.inl rfl) (pe_op op_add (pe_op op_add pe_int (pv 7)) (pe_op op_fdivW (pe_op op_mul (pv 7) (pv 7)) pe_int)))
      (pss_cons (ps_set (i := 9) sc_law.nd rfl (Or.inl rfl) (pe_op op_fdivW (pe_op op_mul (pv 8) (pe_op op_add pe_int (pv 6))) pe_int))
      (pss_cons (ps_set (i := 10) sc_law.nd rfl (Or.inl rfl) (vx_callX c_edge_limit pat_edge_limit_0 (.head _) hr (by decide) takes0 rfl (pa_cons (pv 4) (pa_cons (pv 5) (pa_cons (pv 6) pa_nil))) pk_nil))
      (pss_cons (ps_if (PW.pt (pw_or (pt_not (pt_val (vx_callX c__law_is_integer pat__law_is_integer_0 (.head _) hr (by decide) takes0 rfl (pa_cons (pv 10) pa_nil) pk_nil))) (pw_or1 (pt_cmp (pc_neI (pv 10) (pv 9)))))) (pss_one (ps_ret pe_bl)) pss_nil)
      (C8.pss_cut (ps_if (pt_cmp (pc_eqI (pe_op op_mod (pe_op op_fdivW (pv 2) pe_int) pe_int) pe_int)) (pss_one (ps_set (i := 10) sc_law.nd rfl (Or.inl rfl) (pe_op op_mod (pe_op op_fdivW (pv 2) pe_int) pe_int))) pss_nil)
      (pss_cons (ps_set (i := 11) sc_law.nd rfl (Or.inl rfl) (vx_callX c__law_samples pat__law_samples_0 (.head _) hr (by decide) takes0 rfl (pa_cons (pe_op op_fdivW (pv 2) pe_int) (pa_cons (pv 3) pa_nil)) pk_nil))
      (pss_cons (ps_set (i := 12) sc_law.nd rfl (Or.inl rfl) (vx_callX c_smooth_edge pat_smooth_edge_0 (.head _) hr (by decide) takes0 rfl (pa_cons (pe_ix (ix_listK (K := K)) (pv 11) pe_int (fun _ _ => rfl)) (pa_cons (pe_ix (ix_listK (K := K)) (pv 11) pe_int (fun _ _ => rfl)) (pa_cons (pe_ix (ix_listK (K := K)) (pv 11) pe_int (fun _ _ => rfl)) (pa_cons (pe_ix (ix_listK (K := K)) (pv 11) pe_int (fun _ _ => rfl)) pa_nil)))) (pk_cons (pv 10) (pk_cons (pv 3) pk_nil))))
      (pss_cons (ps_if (PW.pt (pw_or (pt_not (pt_val (pe_callB call_isi (by rfl) T.b_isinstance (by decide +kernel) (pa_cons (pv 12) (pa_cons (pe_bltn (v := V.ty "tuple") (u := Value.type "tuple") (by rfl) T.b_tuple (by decide +kernel) rfl) pa_nil))))) (pw_or1 (pt_cmp (pc_neI (pe_callB (call_lenTK (K := K)) (by rfl) T.b_len (by decide +kernel) (pa_cons (pv 12) pa_nil)) pe_int))))) (pss_one (ps_ret pe_bl)) pss_nil)
      (pss_cons (ps_if (PW.pt (pw_or (pt_not (pt_val (vx_callX c__law_is_integer pat__law_is_integer_0 (.head _) hr (by decide) takes0 rfl (pa_cons (pe_ix (ix_tupK (K := K)) (pv 12) pe_int (fun _ _ => rfl)) pa_nil) pk_nil))) (pw_or1 (pt_not (pt_val (vx_callX c__law_is_integer pat__law_is_integer_0 (.head _) hr (by decide) takes0 rfl (pa_cons (pe_ix (ix_tupK (K := K)) (pv 12) pe_int (fun _ _ => rfl)) pa_nil) pk_nil)))))) (pss_one (ps_ret pe_bl)) pss_nil)
      (pss_cons (ps_if (pt_cmpR (op_neT (encOk_T2 encOk_int encOk_int) hr.units) (pv 12) (vx_callX c__law_due pat__law_due_0 (.head _) hr (by decide) takes0 rfl (pa_cons (pe_ix (ix_listK (K := K)) (pv 11) pe_int (fun _ _ => rfl)) (pa_cons (pe_ix (ix_listK (K := K)) (pv 11) pe_int (fun _ _ => rfl)) (pa_cons (pe_ix (ix_listK (K := K)) (pv 11) pe_int (fun _ _ => rfl)) (pa_cons (pe_ix (ix_listK (K := K)) (pv 11) pe_int (fun _ _ => rfl)) (pa_cons (pv 10) (pa_cons (pv 3) pa_nil)))))) pk_nil) (nomark _)) (pss_one (ps_ret pe_bl)) pss_nil)
      (pss_cons (ps_if (PW.pt (pw_or (pt_cmp (pc_gt (pe_callB call_abs (by rfl) T.b_abs (by decide +kernel) (pa_cons (pe_op op_sub (pe_ix (ix_tupK (K := K)) (pv 12) pe_int (fun _ _ => rfl)) (pe_ix (ix_listK (K := K)) (pv 11) pe_int (fun _ _ => rfl))) pa_nil)) (pv 10))) (pw_or1 (pt_cmp (pc_gt (pe_callB call_abs (by rfl) T.b_abs (by decide +kernel) (pa_cons (pe_op op_sub (pe_ix (ix_tupK (K := K)) (pv 12) pe_int (fun _ _ => rfl)) (pe_ix (ix_listK (K := K)) (pv 11) pe_int (fun _ _ => rfl))) pa_nil)) (pv 10)))))) (pss_one (ps_ret pe_bl)) pss_nil)
      (pss_cons (ps_set (i := 13) sc_law.nd rfl (Or.inl rfl) (pe_op op_sub (pe_op op_mod (pe_op op_fdivW (pv 2) pe_int) pe_int) pe_int))
      (pss_cons (ps_set (i := 14) sc_law.nd rfl (Or.inl rfl) (pe_op op_sub (pe_op op_mod (pe_op op_fdivW (pv 2) pe_int) pe_int) (pv 13)))
      (pss_cons (ps_set (i := 7) sc_law.nd rfl (Or.inl rfl) (pe_op op_fdivW (pe_op op_add (pv 13) (pv 14)) pe_int))
      (pss_cons (ps_if (pt_cmp (pc_neI (vx_callX c_edge_limit pat_edge_limit_0 (.head _) hr (by decide) takes0 rfl (pa_cons (pv 13) (pa_cons (pv 14) (pa_cons (pv 6) pa_nil))) pk_nil) (pe_op op_fdivW (pe_op op_mul (pe_op op_add (pe_op op_add pe_int (pv 7)) (pe_op op_fdivW (pe_op op_mul (pv 7) (pv 7)) pe_int)) (pe_op op_add pe_int (pv 6))) pe_int))) (pss_one (ps_ret pe_bl)) pss_nil)
      (pss_cons (ps_if (PW.pt (pw_or (pt_not (pt_val (vx_callX c__law_refused pat__law_refused_0 (.head _) hr (by decide) takes0 rfl (pa_cons (pv 13) (pa_cons (pe_op op_sub (pe_op op_add pe_int (pe_op op_mod (pv 2) pe_int)) (pv 13)) pa_nil)) pk_nil))) (pw_or1 (pt_not (pt_val (vx_callX c__law_refused pat__law_refused_0 (.head _) hr (by decide) takes0 rfl (pa_cons (pv 13) (pa_cons (pe_op op_sub (pe_op op_sub (pe_un un_neg pe_int) (pe_op op_mod (pv 2) pe_int)) (pv 13)) pa_nil)) pk_nil)))))) (pss_one (ps_ret pe_bl)) pss_nil)
      (pss_one (ps_if (PW.pt (pw_or (pt_not (pt_val (vx_callX c__law_refused pat__law_refused_0 (.head _) hr (by decide) takes0 rfl (pa_cons (pe_op op_add pe_int (pe_op op_mod (pv 2) pe_int)) (pa_cons (pe_op op_add pe_int (pe_op op_mod (pv 2) pe_int)) pa_nil)) pk_nil))) (pw_or1 (pt_not (pt_val (vx_callX c__law_refused pat__law_refused_0 (.head _) hr (by decide) takes0 rfl (pa_cons (pe_op op_sub (pe_un un_neg pe_int) (pe_op op_mod (pv 2) pe_int)) (pa_cons (pe_op op_sub pe_int (pe_op op_mod (pv 2) pe_int)) pa_nil)) pk_nil)))))) (pss_one (ps_ret pe_bl)) pss_nil)))))))))))))))))))))))))
      (pss_one (ps_ret pe_bl))), ?_⟩
    obtain ⟨KK, EE, hK0, hE, hw⟩ := cW_gen hw
    have S0 := Sep.start0 H
    unfold F_law at hw
    obtain ⟨g237, hw⟩ := cW_grd hw
    obtain ⟨K239, hK240, hw⟩ := cW_push hw
    refine ⟨_, rfl, _, _, rfl, (S0.b0.seq q_script), _, _, rfl, rfl, _, _, rfl, _, rfl, g237.1, g237.2, for_range (lo := 0) (n := Int.toNat ((if 30 < (1 + (((script') : (List Int)).length : Int)) then 30 else (1 + (((script') : (List Int)).length : Int))))) (fun i σ H' => ∃ (u241 : Option V) (u242 : Option V) (u243 : Option V) (u244 : Option V) (u245 : Option V) (u246 : Option V) (u247 : Option V) (u248 : Option V) (u249 : Option V) (u250 : Option V) (u251 : Option V) (u252 : Option V) (u253 : Option V) (u254 : Option V) (G' : Hp), σ = [some (V.ref a_script), u241, u242, u243, u244, u245, u246, u247, u248, u249, u250, u251, u252, u253, u254] ∧ Same H G' ∧ Sep [] H H G' H' [] ∧ cW (forR (List.drop i (rng (0) (Int.toNat ((if 30 < (1 + (((script') : (List Int)).length : Int)) then 30 else (1 + (((script') : (List Int)).length : Int))))))) () (fun s x => F_law_b1 (script')  x)) K239 EE) ?_ ?_ ?_⟩
    · exact ⟨_, _, _, _, _, _, _, _, _, _, _, _, _, _, _, rfl, (Same.refl _), S0, hw⟩
    · intro i σ H255 hi hw
      obtain ⟨u241, u242, u243, u244, u245, u246, u247, u248, u249, u250, u251, u252, u253, u254, G257, rfl, eG258, S256, hw⟩ := hw
      have hw := cW_forR (rng_get hi) hw
      generalize (0 + (i : Int)) = x259 at hw ⊢
      have hw : cW (F_law_b1 (script')  (x259)) _ EE := hw
      unfold F_law_b1 at hw
      obtain ⟨K260, hK261, hw⟩ := cW_name hw
      refine ⟨_, rfl, _, rfl, rfl, rfl, G257, _, _, _, rfl, S256.sG, (S256.b0.seq q_script), cW_call hw (fun v263 hw => ?_) (fun e he => (hE e he).elim)⟩
      refine ⟨_, rfl, _, _, rfl, rfl, ?_⟩
      have hw := cW_bnd hw
      obtain ⟨g265, hw⟩ := cW_grd hw
      refine ⟨_, rfl, _, _, rfl, rfl, (show (0 : Int) < 5 by decide), _, _, rfl, rfl, _, _, rfl, rfl, (shl_side g265.1 g265.2.1 g265.2.2.1 g265.2.2.2), _, _, rfl, rfl, ?_⟩
      have hw := cW_bnd hw
      refine ⟨_, rfl, _, _, rfl, rfl, (divW_lit (by decide) (by decide)), _, _, rfl, rfl, (show (0 : Int) < 32 by decide), ?_⟩
      have hw := cW_bnd hw
      refine ⟨_, rfl, _, _, rfl, rfl, (divW_lit (by decide) (by decide)), _, _, rfl, rfl, (show (0 : Int) < 32 by decide), ?_⟩
      have hw := cW_bnd hw
      refine ⟨_, rfl, _, _, rfl, rfl, (divW_lit (by decide) (by decide)), _, _, rfl, rfl, (show (0 : Int) < 13 by decide), _, _, rfl, rfl, ?_⟩
      have hw := cW_bnd hw
      refine ⟨_, rfl, _, rfl, _, _, rfl, rfl, _, _, rfl, rfl, (divW_lit (by decide) (by decide)), ?_⟩
      have hw := cW_bnd hw
      obtain ⟨g271, hw⟩ := cW_grd hw
      refine ⟨_, rfl, _, _, rfl, rfl, _, rfl, _, rfl, _, _, rfl, rfl, g271, _, _, rfl, rfl, (divW_lit (by decide) (by decide)), _, _, rfl, rfl, ?_⟩
      have hw := cW_bnd hw
      obtain ⟨g273, hw⟩ := cW_grd hw
      refine ⟨_, rfl, _, rfl, _, _, rfl, rfl, _, _, rfl, rfl, g273, _, _, rfl, rfl, (divW_lit (by decide) (by decide)), ?_⟩
      have hw := cW_bnd hw
      refine ⟨_, rfl, _, rfl, _, rfl, rfl, rfl, G257, _, _, _, rfl, S256.sG, cW_call hw (fun v275 hw => ?_) (fun e he => (hE e he).elim)⟩
      refine ⟨_, rfl, rfl, rfl, G257, _, rfl, S256.sG, cW_call hw (fun v276 hw => ?_) (fun e he => (hE e he).elim)⟩
      refine ⟨_, rfl, ?_⟩
      refine iteBN (fun c277 => ?_) (fun c277 => ?_)
      · have hw := cW_negB c277 hw
        refine iteT ?_
        have hw := cW_ok hw
        have hw := hK261 (.rt _) hw
        have hw := hK240 (.rt _) hw
        have hw := cW_ok hw
        exact eq_bl (k _) (hK0 _ hw).symm
      · have hw := cW_pos c277 hw
        refine ⟨_, rfl, _, rfl, _, _, rfl, rfl, _, rfl, ?_⟩
        refine iteN (fun c278 => ?_) (fun c278 => ?_)
        · have hw := cW_neg c278 hw
          have hw := cW_ok hw
          have hw := hK261 (.rt _) hw
          have hw := hK240 (.rt _) hw
          have hw := cW_ok hw
          exact eq_bl (k _) (hK0 _ hw).symm
        · have hw := cW_pos c278 hw
          refine ⟨fun σ H' => ∃ (limit_284 : Int) (G' : Hp), σ = [some (V.ref a_script), some (V.int (x259)), some (V.int ((v263 + x259))), some (V.int (((1 * 2 ^ Int.toNat ((8 + ((v263 + x259) % 5)))) - 1))), some (V.int ((((v263 + x259) / 5) % 32))), some (V.int ((((v263 + x259) / 160) % 32))), some (V.int (((((v263 + x259) / 11) % 13) - 6))), some (V.int ((((((v263 + x259) / 5) % 32) + (((v263 + x259) / 160) % 32)) / 2))), some (V.int (((1 + (((((v263 + x259) / 5) % 32) + (((v263 + x259) / 160) % 32)) / 2)) + (((((((v263 + x259) / 5) % 32) + (((v263 + x259) / 160) % 32)) / 2) * (((((v263 + x259) / 5) % 32) + (((v263 + x259) / 160) % 32)) / 2)) / 4)))), some (V.int (((((1 + (((((v263 + x259) / 5) % 32) + (((v263 + x259) / 160) % 32)) / 2)) + (((((((v263 + x259) / 5) % 32) + (((v263 + x259) / 160) % 32)) / 2) * (((((v263 + x259) / 5) % 32) + (((v263 + x259) / 160) % 32)) / 2)) / 4)) * (8 + ((((v263 + x259) / 11) % 13) - 6))) / 16))), some (V.int limit_284), u251, u252, u253, u254] ∧ Same G257 G' ∧ Sep [] H H G' H' [] ∧ cW (F_law_k2 ((v263 + x259)) (((1 * 2 ^ Int.toNat ((8 + ((v263 + x259) % 5)))) - 1)) (((((v263 + x259) / 11) % 13) - 6)) ((((((v263 + x259) / 5) % 32) + (((v263 + x259) / 160) % 32)) / 2)) limit_284) K260 EE, ?_, ?_⟩
          · obtain ⟨K285, hK286, hw⟩ := cW_push hw
            refine ⟨_, rfl, _, _, rfl, rfl, (divW_lit (by decide) (by decide)), _, _, rfl, rfl, (show (0 : Int) < 2 by decide), _, _, rfl, rfl, _, rfl, ?_⟩
            refine iteD (fun c287 => ?_) (fun c287 => ?_)
            · have hw := cW_pos c287 hw
              refine ⟨_, rfl, _, _, rfl, rfl, (divW_lit (by decide) (by decide)), _, _, rfl, rfl, (show (0 : Int) < 201 by decide), ?_⟩
              have hw := cW_bnd hw
              have hw := cW_ok hw
              have hw := hK286 _ hw
              exact ⟨((((v263 + x259) / 26) % 201)), _, rfl, (Same.refl _), S256, hw⟩
            · have hw := cW_neg c287 hw
              have hw := cW_ok hw
              have hw := hK286 _ hw
              exact ⟨(v275), _, rfl, (Same.refl _), S256, hw⟩
          · intro σ H289 hw
            obtain ⟨limit_284, G291, rfl, eG292, S290, hw⟩ := hw
            unfold F_law_k2 at hw
            refine ⟨_, rfl, _, _, rfl, rfl, (divW_lit (by decide) (by decide)), _, rfl, rfl, rfl, G291, _, _, rfl, S290.sG, cW_call hw (fun v293 hw p296 H294 n297 e295 h298 => ?_) (fun e he => (hE e he).elim)⟩
            have h299 : H294 p296 = some (.lst ((v293 : (List Int)).map V.int)) := h298
            have fr300 := S290.free n297
            have S301 := S290.new n297 e295 h299 fr300
            obtain ⟨g302, hw⟩ := cW_grd hw
            obtain ⟨g303, hw⟩ := cW_grd hw
            obtain ⟨g304, hw⟩ := cW_grd hw
            obtain ⟨g305, hw⟩ := cW_grd hw
            refine ⟨_, rfl, _, _, _, _, rfl, rfl, (SqL.of h299), (atI_map g302), _, rfl, _, _, _, _, rfl, rfl, (SqL.of h299), (atI_map g303), _, rfl, _, _, _, _, rfl, rfl, (SqL.of h299), (atI_map g304), _, rfl, _, _, _, _, rfl, rfl, (SqL.of h299), (atI_map g305), _, rfl, _, rfl, rfl, rfl, G291, _, _, _, _, _, _, rfl, S301.sG, cW_call hw (fun v306 hw v309 H307 G310 e308 eG311 sG312 hn313 r314 => ?_) (fun e he => (hE e he).elim)⟩
            have S315 := S301.step e308 eG311 sG312 hn313
            obtain ⟨a316, v318, v319, rfl, h317, r320, r321⟩ := rp_tup2 r314
            obtain rfl := rp_int r320
            obtain rfl := rp_int r321
            refine ⟨_, rfl, _, _, _, _, _, rfl, (.ty _), (.base (.tup (S315.sG _ _ h317))), rfl, _, rfl, ?_⟩
            refine iteF ?_
            refine ⟨_, rfl, _, _, _, rfl, (SqT.of (S315.sG _ _ h317)), rfl, _, _, rfl, rfl, _, rfl, ?_⟩
            refine iteN (fun c322 => ?_) (fun c322 => ?_)
            · have hw := cW_neg c322 hw
              have hw := cW_ok hw
              have hw := hK261 (.rt _) hw
              have hw := hK240 (.rt _) hw
              have hw := cW_ok hw
              exact eq_bl (k _) (hK0 _ hw).symm
            · have hw := cW_pos c322 hw
              refine ⟨_, rfl, _, _, _, _, rfl, rfl, (SqT.of (S315.sG _ _ h317)), rfl, rfl, rfl, G310, _, rfl, S315.sG, cW_call hw (fun v323 hw => ?_) (fun e he => (hE e he).elim)⟩
              refine ⟨_, rfl, ?_⟩
              refine iteBN (fun c324 => ?_) (fun c324 => ?_)
              · have hw := cW_negB c324 hw
                refine iteT ?_
                have hw := cW_ok hw
                have hw := hK261 (.rt _) hw
                have hw := hK240 (.rt _) hw
                have hw := cW_ok hw
                exact eq_bl (k _) (hK0 _ hw).symm
              · have hw := cW_pos c324 hw
                refine ⟨_, rfl, _, _, _, _, rfl, rfl, (SqT.of (S315.sG _ _ h317)), rfl, rfl, rfl, G310, _, rfl, S315.sG, cW_call hw (fun v325 hw => ?_) (fun e he => (hE e he).elim)⟩
                refine ⟨_, rfl, ?_⟩
                refine iteBN (fun c326 => ?_) (fun c326 => ?_)
                · have hw := cW_negB c326 hw
                  have hw := cW_ok hw
                  have hw := hK261 (.rt _) hw
                  have hw := hK240 (.rt _) hw
                  have hw := cW_ok hw
                  exact eq_bl (k _) (hK0 _ hw).symm
                · have hw := cW_pos c326 hw
                  obtain ⟨g327, hw⟩ := cW_grd hw
                  have h328 := (e308 _ _ h299)
                  obtain ⟨g329, hw⟩ := cW_grd hw
                  obtain ⟨g330, hw⟩ := cW_grd hw
                  obtain ⟨g331, hw⟩ := cW_grd hw
                  refine ⟨_, rfl, _, rfl, _, _, _, _, rfl, rfl, (SqL.of h328), (atI_map g327), _, rfl, _, _, _, _, rfl, rfl, (SqL.of h328), (atI_map g329), _, rfl, _, _, _, _, rfl, rfl, (SqL.of h328), (atI_map g330), _, rfl, _, _, _, _, rfl, rfl, (SqL.of h328), (atI_map g331), _, rfl, _, rfl, rfl, rfl, G310, _, _, _, _, _, _, rfl, S315.sG, cW_call hw (fun v332 hw v335 H333 G336 e334 eG337 sG338 hn339 r340 => ?_) (fun e he => (hE e he).elim)⟩
                  have S341 := S315.step e334 eG337 sG338 hn339
                  obtain ⟨a342, v344, v345, rfl, h343, r346, r347⟩ := rp_tup2 r340
                  obtain rfl := rp_int r346
                  obtain rfl := rp_int r347
                  refine ⟨_, _, (rp_mk2 (S341.sG _ _ (eG337 _ _ h317)) (.int _) (.int _)), (rp_mk2 (S341.sG _ _ h343) (.int _) (.int _)), _, rfl, ?_⟩
                  refine iteN (fun c348 => ?_) (fun c348 => ?_)
                  · have hw := cW_neg c348 hw
                    have hw := cW_ok hw
                    have hw := hK261 (.rt _) hw
                    have hw := hK240 (.rt _) hw
                    have hw := cW_ok hw
                    exact eq_bl (k _) (hK0 _ hw).symm
                  · have hw := cW_pos c348 hw
                    obtain ⟨g349, hw⟩ := cW_grd hw
                    have h350 := (e334 _ _ h328)
                    refine ⟨_, rfl, _, _, _, _, rfl, rfl, (SqT.of (S341.sG _ _ (eG337 _ _ h317))), rfl, _, rfl, _, _, _, _, rfl, rfl, (SqL.of h350), (atI_map g349), _, _, rfl, rfl, _, rfl, _, rfl, _, _, rfl, rfl, _, rfl, ?_⟩
                    refine iteD (fun c351 => ?_) (fun c351 => ?_)
                    · have hw := cW_pos c351 hw
                      refine iteT ?_
                      have hw := cW_ok hw
                      have hw := hK261 (.rt _) hw
                      have hw := hK240 (.rt _) hw
                      have hw := cW_ok hw
                      exact eq_bl (k _) (hK0 _ hw).symm
                    · have hw := cW_neg c351 hw
                      obtain ⟨g352, hw⟩ := cW_grd hw
                      refine ⟨_, rfl, _, _, _, _, rfl, rfl, (SqT.of (S341.sG _ _ (eG337 _ _ h317))), rfl, _, rfl, _, _, _, _, rfl, rfl, (SqL.of h350), (atI_map g352), _, _, rfl, rfl, _, rfl, _, rfl, _, _, rfl, rfl, _, rfl, ?_⟩
                      refine iteD (fun c353 => ?_) (fun c353 => ?_)
                      · have hw := cW_pos c353 hw
                        have hw := cW_ok hw
                        have hw := hK261 (.rt _) hw
                        have hw := hK240 (.rt _) hw
                        have hw := cW_ok hw
                        exact eq_bl (k _) (hK0 _ hw).symm
                      · have hw := cW_neg c353 hw
                        refine ⟨_, rfl, _, _, rfl, rfl, (divW_lit (by decide) (by decide)), _, _, rfl, rfl, (show (0 : Int) < 141 by decide), _, _, rfl, rfl, ?_⟩
                        have hw := cW_bnd hw
                        refine ⟨_, rfl, _, _, rfl, rfl, (divW_lit (by decide) (by decide)), _, _, rfl, rfl, (show (0 : Int) < 64 by decide), _, rfl, _, _, rfl, rfl, ?_⟩
                        have hw := cW_bnd hw
                        refine ⟨_, rfl, _, rfl, _, _, rfl, rfl, _, _, rfl, rfl, (divW_lit (by decide) (by decide)), ?_⟩
                        have hw := cW_bnd hw
                        refine ⟨_, rfl, _, rfl, _, rfl, rfl, rfl, G336, _, _, _, rfl, S341.sG, cW_call hw (fun v357 hw => ?_) (fun e he => (hE e he).elim)⟩
                        obtain ⟨g358, hw⟩ := cW_grd hw
                        obtain ⟨g359, hw⟩ := cW_grd hw
                        refine ⟨_, rfl, _, _, rfl, rfl, _, rfl, _, rfl, _, _, rfl, rfl, g358, _, _, rfl, rfl, (divW_lit (by decide) (by decide)), _, _, rfl, rfl, _, rfl, _, _, rfl, rfl, _, _, rfl, rfl, g359, _, _, rfl, rfl, (divW_lit (by decide) (by decide)), _, _, rfl, rfl, _, rfl, ?_⟩
                        refine iteN (fun c360 => ?_) (fun c360 => ?_)
                        · have hw := cW_neg c360 hw
                          have hw := cW_ok hw
                          have hw := hK261 (.rt _) hw
                          have hw := hK240 (.rt _) hw
                          have hw := cW_ok hw
                          exact eq_bl (k _) (hK0 _ hw).symm
                        · have hw := cW_pos c360 hw
                          refine ⟨_, rfl, _, rfl, _, _, rfl, rfl, (show (0 : Int) < 9 by decide), _, _, rfl, rfl, _, rfl, _, _, rfl, rfl, rfl, rfl, G336, _, _, rfl, S341.sG, cW_call hw (fun v361 hw H362 e363 => ?_) (fun e he => (hE e he).elim)⟩
                          have S364 := S341.same e363
                          refine ⟨_, rfl, ?_⟩
                          refine iteBN (fun c365 => ?_) (fun c365 => ?_)
                          · have hw := cW_negB c365 hw
                            refine iteT ?_
                            have hw := cW_ok hw
                            have hw := hK261 (.rt _) hw
                            have hw := hK240 (.rt _) hw
                            have hw := cW_ok hw
                            exact eq_bl (k _) (hK0 _ hw).symm
                          · have hw := cW_pos c365 hw
                            refine ⟨_, rfl, _, rfl, _, rfl, _, _, rfl, rfl, (show (0 : Int) < 9 by decide), _, _, rfl, rfl, _, rfl, _, _, rfl, rfl, rfl, rfl, G336, _, _, rfl, S364.sG, cW_call hw (fun v366 hw H367 e368 => ?_) (fun e he => (hE e he).elim)⟩
                            have S369 := S364.same e368
                            refine ⟨_, rfl, ?_⟩
                            refine iteBN (fun c370 => ?_) (fun c370 => ?_)
                            · have hw := cW_negB c370 hw
                              have hw := cW_ok hw
                              have hw := hK261 (.rt _) hw
                              have hw := hK240 (.rt _) hw
                              have hw := cW_ok hw
                              exact eq_bl (k _) (hK0 _ hw).symm
                            · have hw := cW_pos c370 hw
                              refine ⟨_, rfl, _, _, rfl, rfl, (show (0 : Int) < 9 by decide), _, _, rfl, rfl, _, rfl, _, _, rfl, rfl, (show (0 : Int) < 9 by decide), _, _, rfl, rfl, rfl, rfl, G336, _, _, rfl, S369.sG, cW_call hw (fun v371 hw H372 e373 => ?_) (fun e he => (hE e he).elim)⟩
                              have S374 := S369.same e373
                              refine ⟨_, rfl, ?_⟩
                              refine iteBN (fun c375 => ?_) (fun c375 => ?_)
                              · have hw := cW_negB c375 hw
                                refine iteT ?_
                                have hw := cW_ok hw
                                have hw := hK261 (.rt _) hw
                                have hw := hK240 (.rt _) hw
                                have hw := cW_ok hw
                                exact eq_bl (k _) (hK0 _ hw).symm
                              · have hw := cW_pos c375 hw
                                refine ⟨_, rfl, _, rfl, _, _, rfl, rfl, (show (0 : Int) < 9 by decide), _, _, rfl, rfl, _, rfl, _, _, rfl, rfl, (show (0 : Int) < 3 by decide), _, _, rfl, rfl, rfl, rfl, G336, _, _, rfl, S374.sG, cW_call hw (fun v376 hw H377 e378 => ?_) (fun e he => (hE e he).elim)⟩
                                have S379 := S374.same e378
                                refine ⟨_, rfl, ?_⟩
                                refine iteBN (fun c380 => ?_) (fun c380 => ?_)
                                · have hw := cW_negB c380 hw
                                  have hw := cW_ok hw
                                  have hw := hK261 (.rt _) hw
                                  have hw := hK240 (.rt _) hw
                                  have hw := cW_ok hw
                                  exact eq_bl (k _) (hK0 _ hw).symm
                                · have hw := cW_pos c380 hw
                                  have hw := cW_ok hw
                                  have hw := hK261 _ hw
                                  exact ⟨_, _, _, _, _, _, _, _, _, _, _, _, _, _, _, rfl, (Same.trans (Same.trans (Same.trans eG258 eG292) eG311) eG337), (S379.sub all_nil), hw⟩
    · intro σ H381 hw
      obtain ⟨u241, u242, u243, u244, u245, u246, u247, u248, u249, u250, u251, u252, u253, u254, G383, rfl, eG384, S382, hw⟩ := hw
      have hw := hK240 _ (cW_forR0 (rng_len _ _).symm hw)
      have hw : cW (F_law_r1  ) _ EE := hw
      unfold F_law_r1 at hw
      have hw := cW_ok hw
      exact eq_bl (k _) (hK0 _ hw).symm
end
def spL (K : PySem.W.Frag) : Sp := fun vs H Q _ => ∃ (a_script : Addr) (script : List Int), vs = [.ref a_script] ∧ SqL K H a_script (script.map V.int) ∧ script.length ≤ 63 ∧ ∀ H', Q (.bl true) H'
theorem all_mk {l : PySem.W.OpenLaw} {w : World} {K : PySem.W.Frag} {h : Heap} {mg : Str → Option Value} {fa : Addr} (X : K.In h) (G : h.Ns mainGlobals mg) (hfa : mg "law" = some (.ref fa))
    {f0 f1 f2 f3 f4 f5 f6 f7 f8 f9 f10 XOutOfRange : Addr} {od0 an0 od1 an1 od2 an2 od3 an3 od4 an4 od5 an5 od6 an6 od7 an7 od8 an8 od9 an9 od10 an10 : Option Addr} {sl0 sl1 sl2 sl3 sl4 sl5 sl6 sl7 sl8 sl9 sl10 : Array (Option Value)} {oc0 kV0 dc0 pm0 cd0 ct0 oc1 kV1 dc1 pm1 cd1 ct1 oc2 kV2 dc2 pm2 cd2 ct2 oc3 kV3 dc3 pm3 cd3 ct3 oc4 kV4 dc4 pm4 cd4 ct4 oc5 kV5 dc5 pm5 cd5 ct5 oc6 kV6 dc6 pm6 cd6 ct6 oc7 kV7 dc7 pm7 cd7 ct7 oc8 kV8 dc8 pm8 cd8 ct8 oc9 kV9 dc9 pm9 cd9 ct9 oc10 kV10 dc10 pm10 cd10 ct10 : Value} {tk0 : Tok}
    (vOutOfRange : PySem.W.nsIn K mainGlobals "OutOfRange" = some (some (.ref XOutOfRange))) (a0 : PySem.W.nsIn K mainGlobals "step_of" = some (some (.ref f0))) (l0 : K.lookup f0 = some ⟨oc0, od0, .func (PySem.W.fnOf "step_of" "step_of" (defArgs s_step_of) (defBody s_step_of) (defScope s_step_of) .none kV0 dc0 pm0 an0 cd0 ct0), sl0⟩) (c0 : PySem.W.codeIn K cd0 "step_of" = true) (k0 : PySem.W.keepIn K (.ref f0) = true) (a1 : PySem.W.nsIn K mainGlobals "edge_limit" = some (some (.ref f1))) (l1 : K.lookup f1 = some ⟨oc1, od1, .func (PySem.W.fnOf "edge_limit" "edge_limit" (defArgs s_edge_limit) (defBody s_edge_limit) (defScope s_edge_limit) .none kV1 dc1 pm1 an1 cd1 ct1), sl1⟩) (c1 : PySem.W.codeIn K cd1 "edge_limit" = true) (k1 : PySem.W.keepIn K (.ref f1) = true) (a2 : PySem.W.nsIn K mainGlobals "_law_digits" = some (some (.ref f2))) (l2 : K.lookup f2 = some ⟨oc2, od2, .func (PySem.W.fnOf "_law_digits" "_law_digits" (defArgs s__law_digits) (defBody s__law_digits) (defScope s__law_digits) .none kV2 dc2 pm2 an2 cd2 ct2), sl2⟩) (c2 : PySem.W.codeIn K cd2 "_law_digits" = true) (k2 : PySem.W.keepIn K (.ref f2) = true) (a3 : PySem.W.nsIn K mainGlobals "_law_samples" = some (some (.ref f3))) (l3 : K.lookup f3 = some ⟨oc3, od3, .func (PySem.W.fnOf "_law_samples" "_law_samples" (defArgs s__law_samples) (defBody s__law_samples) (defScope s__law_samples) .none kV3 dc3 pm3 an3 cd3 ct3), sl3⟩) (c3 : PySem.W.codeIn K cd3 "_law_samples" = true) (k3 : PySem.W.keepIn K (.ref f3) = true) (a4 : PySem.W.nsIn K mainGlobals "clip" = some (some (.ref f4))) (l4 : K.lookup f4 = some ⟨oc4, od4, .func (PySem.W.fnOf "clip" "clip" (defArgs s_clip) (defBody s_clip) (defScope s_clip) .none kV4 dc4 pm4 an4 cd4 ct4), sl4⟩) (c4 : PySem.W.codeIn K cd4 "clip" = true) (k4 : PySem.W.keepIn K (.ref f4) = true) (a5 : PySem.W.nsIn K mainGlobals "smooth_edge" = some (some (.ref f5))) (l5 : K.lookup f5 = some ⟨oc5, od5, .func (PySem.W.fnOf "smooth_edge" "smooth_edge" (defArgs s_smooth_edge) (defBody s_smooth_edge) (defScope s_smooth_edge) .none kV5 dc5 pm5 an5 cd5 ct5), sl5⟩) (c5 : PySem.W.codeIn K cd5 "smooth_edge" = true) (k5 : PySem.W.keepIn K (.ref f5) = true) (a6 : PySem.W.nsIn K mainGlobals "_law_cell" = some (some (.ref f6))) (l6 : K.lookup f6 = some ⟨oc6, od6, .func (PySem.W.fnOf "_law_cell" "_law_cell" (defArgs s__law_cell) (defBody s__law_cell) (defScope s__law_cell) .none kV6 dc6 pm6 an6 cd6 ct6), sl6⟩) (c6 : PySem.W.codeIn K cd6 "_law_cell" = true) (k6 : PySem.W.keepIn K (.ref f6) = true) (a7 : PySem.W.nsIn K mainGlobals "_law_due" = some (some (.ref f7))) (l7 : K.lookup f7 = some ⟨oc7, od7, .func (PySem.W.fnOf "_law_due" "_law_due" (defArgs s__law_due) (defBody s__law_due) (defScope s__law_due) .none kV7 dc7 pm7 an7 cd7 ct7), sl7⟩) (c7 : PySem.W.codeIn K cd7 "_law_due" = true) (k7 : PySem.W.keepIn K (.ref f7) = true) (a8 : PySem.W.nsIn K mainGlobals "_law_is_integer" = some (some (.ref f8))) (l8 : K.lookup f8 = some ⟨oc8, od8, .func (PySem.W.fnOf "_law_is_integer" "_law_is_integer" (defArgs s__law_is_integer) (defBody s__law_is_integer) (defScope s__law_is_integer) .none kV8 dc8 pm8 an8 cd8 ct8), sl8⟩) (c8 : PySem.W.codeIn K cd8 "_law_is_integer" = true) (k8 : PySem.W.keepIn K (.ref f8) = true) (a9 : PySem.W.nsIn K mainGlobals "_law_refused" = some (some (.ref f9))) (l9 : K.lookup f9 = some ⟨oc9, od9, .func (PySem.W.fnOf "_law_refused" "_law_refused" (defArgs s__law_refused) (defBody s__law_refused) (defScope s__law_refused) .none kV9 dc9 pm9 an9 cd9 ct9), sl9⟩) (c9 : PySem.W.codeIn K cd9 "_law_refused" = true) (k9 : PySem.W.keepIn K (.ref f9) = true) (a10 : PySem.W.nsIn K mainGlobals "law" = some (some (.ref f10))) (l10 : K.lookup f10 = some ⟨oc10, od10, .func (PySem.W.fnOf "law" "law" (defArgs s_law) (defBody s_law) (defScope s_law) .none kV10 dc10 pm10 an10 cd10 ct10), sl10⟩) (c10 : PySem.W.codeIn K cd10 "law" = true) (k10 : PySem.W.keepIn K (.ref f10) = true)
    (z0 : PySem.W.nsIn K mainGlobals "GREATEST_QUANTIZER" = some (some (.int 31 tk0))) (z1 : PySem.W.nsIn K mainGlobals "int" = some none) (z2 : PySem.W.nsIn K mainGlobals "range" = some none) (z3 : PySem.W.nsIn K mainGlobals "max" = some none) (z4 : PySem.W.nsIn K mainGlobals "min" = some none) (z5 : PySem.W.nsIn K mainGlobals "abs" = some none) (z6 : PySem.W.nsIn K mainGlobals "len" = some none) (z7 : PySem.W.nsIn K mainGlobals "isinstance" = some none) (z8 : PySem.W.nsIn K mainGlobals "bool" = some none) (z9 : PySem.W.nsIn K mainGlobals "tuple" = some none) (exOutOfRange : PySem.W.excIn K XOutOfRange [.type "ValueError", .type "Exception", .type "BaseException", .type "object"] "ValueError.__new__" = true) (ekOutOfRange : PySem.W.keepIn K (.ref XOutOfRange) = true) (ebOutOfRange : PySem.W.subIn K (.ref XOutOfRange) (.type "BaseException") = some true) (etOutOfRange : PySem.W.typeIn K (.ref XOutOfRange) = some (.type "type")) (eiOutOfRangeOutOfRange : PySem.W.isClsIn K XOutOfRange = true) (esOutOfRangeOutOfRange : PySem.W.subIn K (.ref XOutOfRange) (.ref XOutOfRange) = some true) :
    ∃ fd : FuncData, (∀ (s : Shared) (v : Value), BindsTo s fd ⟨[v], []⟩ [("script", v)]) ∧ ∀ base : Heap, K.In base → base.Ns mainGlobals mg → FnOk l.prog w K mg base CX0 4 fa fd ["script"] (spL K) := by
  have e := hfa.symm.trans (PySem.W.mg_of X G a10)
  cases e
  have T : Txt K mg ⟨fa, XOutOfRange, fa⟩ := ⟨⟨_, PySem.W.mg_of X G z0, ⟨_, rfl⟩⟩, PySem.W.mg_none_of X G z1, PySem.W.mg_none_of X G z2, PySem.W.mg_none_of X G z3, PySem.W.mg_none_of X G z4, PySem.W.mg_none_of X G z5, PySem.W.mg_none_of X G z6, PySem.W.mg_none_of X G z7, PySem.W.mg_none_of X G z8, PySem.W.mg_none_of X G z9, PySem.W.mg_of X G vOutOfRange, exOutOfRange, ekOutOfRange, ebOutOfRange, etOutOfRange, exm_mk ebOutOfRange eiOutOfRangeOutOfRange etOutOfRange esOutOfRangeOutOfRange⟩
  have F0 : FunD K "step_of" "step_of" (defArgs s_step_of) (defBody s_step_of) (defScope s_step_of) [] [] f0 _ := ⟨⟨_, _, _, _, _, _, _, _, _, _, rfl, l0, c0, .inl ⟨rfl, rfl⟩, .inl rfl⟩, k0⟩
  have D_0 : DefX K mg "step_of" s_step_of ["quantizer"] pats_step_of := ⟨_, _, _, _, F0, PySem.W.mg_of X G a0, (all_consQ (Bnd.all fun us ws vs zs l1 l2 r rz => by
      obtain ⟨u0, rfl⟩ := len1 (r.length.symm.trans l1)
      obtain rfl := len0 (rz.length.symm.trans l2)
      cases r with | cons r0 r =>
        cases r
        cases rz
        exact ⟨[u0], rfl, (.cons r0 .nil)⟩) all_nilQ)⟩
  have F1 : FunD K "edge_limit" "edge_limit" (defArgs s_edge_limit) (defBody s_edge_limit) (defScope s_edge_limit) [] [] f1 _ := ⟨⟨_, _, _, _, _, _, _, _, _, _, rfl, l1, c1, .inl ⟨rfl, rfl⟩, .inl rfl⟩, k1⟩
  have D_1 : DefX K mg "edge_limit" s_edge_limit ["first", "second", "edge"] pats_edge_limit := ⟨_, _, _, _, F1, PySem.W.mg_of X G a1, (all_consQ (Bnd.all fun us ws vs zs l1 l2 r rz => by
      obtain ⟨u0, u1, u2, rfl⟩ := len3 (r.length.symm.trans l1)
      obtain rfl := len0 (rz.length.symm.trans l2)
      cases r with | cons r0 r =>
        cases r with | cons r1 r =>
          cases r with | cons r2 r =>
            cases r
            cases rz
            exact ⟨[u0, u1, u2], rfl, (.cons r0 (.cons r1 (.cons r2 .nil)))⟩) all_nilQ)⟩
  have F2 : FunD K "_law_digits" "_law_digits" (defArgs s__law_digits) (defBody s__law_digits) (defScope s__law_digits) [] [] f2 _ := ⟨⟨_, _, _, _, _, _, _, _, _, _, rfl, l2, c2, .inl ⟨rfl, rfl⟩, .inl rfl⟩, k2⟩
  have D_2 : DefX K mg "_law_digits" s__law_digits ["cell", "base", "most"] pats__law_digits := ⟨_, _, _, _, F2, PySem.W.mg_of X G a2, (all_consQ (Bnd.all fun us ws vs zs l1 l2 r rz => by
      obtain ⟨u0, u1, u2, rfl⟩ := len3 (r.length.symm.trans l1)
      obtain rfl := len0 (rz.length.symm.trans l2)
      cases r with | cons r0 r =>
        cases r with | cons r1 r =>
          cases r with | cons r2 r =>
            cases r
            cases rz
            exact ⟨[u0, u1, u2], rfl, (.cons r0 (.cons r1 (.cons r2 .nil)))⟩) all_nilQ)⟩
  have F3 : FunD K "_law_samples" "_law_samples" (defArgs s__law_samples) (defBody s__law_samples) (defScope s__law_samples) [] [] f3 _ := ⟨⟨_, _, _, _, _, _, _, _, _, _, rfl, l3, c3, .inl ⟨rfl, rfl⟩, .inl rfl⟩, k3⟩
  have D_3 : DefX K mg "_law_samples" s__law_samples ["cell", "top"] pats__law_samples := ⟨_, _, _, _, F3, PySem.W.mg_of X G a3, (all_consQ (Bnd.all fun us ws vs zs l1 l2 r rz => by
      obtain ⟨u0, u1, rfl⟩ := len2 (r.length.symm.trans l1)
      obtain rfl := len0 (rz.length.symm.trans l2)
      cases r with | cons r0 r =>
        cases r with | cons r1 r =>
          cases r
          cases rz
          exact ⟨[u0, u1], rfl, (.cons r0 (.cons r1 .nil))⟩) all_nilQ)⟩
  have F4 : FunD K "clip" "clip" (defArgs s_clip) (defBody s_clip) (defScope s_clip) [] [] f4 _ := ⟨⟨_, _, _, _, _, _, _, _, _, _, rfl, l4, c4, .inl ⟨rfl, rfl⟩, .inl rfl⟩, k4⟩
  have D_4 : DefX K mg "clip" s_clip ["value", "low", "high"] pats_clip := ⟨_, _, _, _, F4, PySem.W.mg_of X G a4, (all_consQ (Bnd.all fun us ws vs zs l1 l2 r rz => by
      obtain ⟨u0, u1, u2, rfl⟩ := len3 (r.length.symm.trans l1)
      obtain rfl := len0 (rz.length.symm.trans l2)
      cases r with | cons r0 r =>
        cases r with | cons r1 r =>
          cases r with | cons r2 r =>
            cases r
            cases rz
            exact ⟨[u0, u1, u2], rfl, (.cons r0 (.cons r1 (.cons r2 .nil)))⟩) all_nilQ)⟩
  have F5 : FunD K "smooth_edge" "smooth_edge" (defArgs s_smooth_edge) (defBody s_smooth_edge) (defScope s_smooth_edge) [] [] f5 _ := ⟨⟨_, _, _, _, _, _, _, _, _, _, rfl, l5, c5, .inl ⟨rfl, rfl⟩, .inl rfl⟩, k5⟩
  have D_5 : DefX K mg "smooth_edge" s_smooth_edge ["a1", "a0", "b0", "b1", "limit", "top"] pats_smooth_edge := ⟨_, _, _, _, F5, PySem.W.mg_of X G a5, (all_consQ (Bnd.all fun us ws vs zs l1 l2 r rz => by
      obtain ⟨u0, u1, u2, u3, rfl⟩ := len4 (r.length.symm.trans l1)
      obtain ⟨w0, w1, rfl⟩ := len2 (rz.length.symm.trans l2)
      cases r with | cons r0 r =>
        cases r with | cons r1 r =>
          cases r with | cons r2 r =>
            cases r with | cons r3 r =>
              cases r
              cases rz with | cons q0 rz =>
                cases rz with | cons q1 rz =>
                  cases rz
                  exact ⟨[u0, u1, u2, u3, w0, w1], rfl, (.cons r0 (.cons r1 (.cons r2 (.cons r3 (.cons q0 (.cons q1 .nil))))))⟩) all_nilQ)⟩
  have F6 : FunD K "_law_cell" "_law_cell" (defArgs s__law_cell) (defBody s__law_cell) (defScope s__law_cell) [] [] f6 _ := ⟨⟨_, _, _, _, _, _, _, _, _, _, rfl, l6, c6, .inl ⟨rfl, rfl⟩, .inl rfl⟩, k6⟩
  have D_6 : DefX K mg "_law_cell" s__law_cell ["script", "k"] pats__law_cell := ⟨_, _, _, _, F6, PySem.W.mg_of X G a6, (all_consQ (Bnd.all fun us ws vs zs l1 l2 r rz => by
      obtain ⟨u0, u1, rfl⟩ := len2 (r.length.symm.trans l1)
      obtain rfl := len0 (rz.length.symm.trans l2)
      cases r with | cons r0 r =>
        cases r with | cons r1 r =>
          cases r
          cases rz
          exact ⟨[u0, u1], rfl, (.cons r0 (.cons r1 .nil))⟩) all_nilQ)⟩
  have F7 : FunD K "_law_due" "_law_due" (defArgs s__law_due) (defBody s__law_due) (defScope s__law_due) [] [] f7 _ := ⟨⟨_, _, _, _, _, _, _, _, _, _, rfl, l7, c7, .inl ⟨rfl, rfl⟩, .inl rfl⟩, k7⟩
  have D_7 : DefX K mg "_law_due" s__law_due ["a1", "a0", "b0", "b1", "limit", "top"] pats__law_due := ⟨_, _, _, _, F7, PySem.W.mg_of X G a7, (all_consQ (Bnd.all fun us ws vs zs l1 l2 r rz => by
      obtain ⟨u0, u1, u2, u3, u4, u5, rfl⟩ := len6 (r.length.symm.trans l1)
      obtain rfl := len0 (rz.length.symm.trans l2)
      cases r with | cons r0 r =>
        cases r with | cons r1 r =>
          cases r with | cons r2 r =>
            cases r with | cons r3 r =>
              cases r with | cons r4 r =>
                cases r with | cons r5 r =>
                  cases r
                  cases rz
                  exact ⟨[u0, u1, u2, u3, u4, u5], rfl, (.cons r0 (.cons r1 (.cons r2 (.cons r3 (.cons r4 (.cons r5 .nil))))))⟩) all_nilQ)⟩
  have F8 : FunD K "_law_is_integer" "_law_is_integer" (defArgs s__law_is_integer) (defBody s__law_is_integer) (defScope s__law_is_integer) [] [] f8 _ := ⟨⟨_, _, _, _, _, _, _, _, _, _, rfl, l8, c8, .inl ⟨rfl, rfl⟩, .inl rfl⟩, k8⟩
  have D_8 : DefX K mg "_law_is_integer" s__law_is_integer ["actual"] pats__law_is_integer := ⟨_, _, _, _, F8, PySem.W.mg_of X G a8, (all_consQ (Bnd.all fun us ws vs zs l1 l2 r rz => by
      obtain ⟨u0, rfl⟩ := len1 (r.length.symm.trans l1)
      obtain rfl := len0 (rz.length.symm.trans l2)
      cases r with | cons r0 r =>
        cases r
        cases rz
        exact ⟨[u0], rfl, (.cons r0 .nil)⟩) all_nilQ)⟩
  have F9 : FunD K "_law_refused" "_law_refused" (defArgs s__law_refused) (defBody s__law_refused) (defScope s__law_refused) [] [] f9 _ := ⟨⟨_, _, _, _, _, _, _, _, _, _, rfl, l9, c9, .inl ⟨rfl, rfl⟩, .inl rfl⟩, k9⟩
  have D_9 : DefX K mg "_law_refused" s__law_refused ["first", "second"] pats__law_refused := ⟨_, _, _, _, F9, PySem.W.mg_of X G a9, (all_consQ (Bnd.all fun us ws vs zs l1 l2 r rz => by
      obtain ⟨u0, u1, rfl⟩ := len2 (r.length.symm.trans l1)
      obtain rfl := len0 (rz.length.symm.trans l2)
      cases r with | cons r0 r =>
        cases r with | cons r1 r =>
          cases r
          cases rz
          exact ⟨[u0, u1], rfl, (.cons r0 (.cons r1 .nil))⟩) all_nilQ)⟩
  have F10 := fun_mk (st := s_law) l10 c10 k10
  have R_step_of : ∀ base : Heap, CalX l.prog w K mg base 1 "step_of" (sp_step_of K ⟨fa, XOutOfRange, fa⟩) pats_step_of := fun base => ok_step_of D_0 T 
  have R_edge_limit : ∀ base : Heap, CalX l.prog w K mg base 2 "edge_limit" (sp_edge_limit K ⟨fa, XOutOfRange, fa⟩) pats_edge_limit := fun base => ok_edge_limit D_1 T (R_step_of base)
  have R__law_digits : ∀ base : Heap, CalX l.prog w K mg base 1 "_law_digits" (sp__law_digits K ⟨fa, XOutOfRange, fa⟩) pats__law_digits := fun base => ok__law_digits D_2 T 
  have R__law_samples : ∀ base : Heap, CalX l.prog w K mg base 2 "_law_samples" (sp__law_samples K ⟨fa, XOutOfRange, fa⟩) pats__law_samples := fun base => ok__law_samples D_3 T (R__law_digits base)
  have R_clip : ∀ base : Heap, CalX l.prog w K mg base 1 "clip" (sp_clip K ⟨fa, XOutOfRange, fa⟩) pats_clip := fun base => ok_clip D_4 T 
  have R_smooth_edge : ∀ base : Heap, CalX l.prog w K mg base 2 "smooth_edge" (sp_smooth_edge K ⟨fa, XOutOfRange, fa⟩) pats_smooth_edge := fun base => ok_smooth_edge D_5 T (R_clip base)
  have R__law_cell : ∀ base : Heap, CalX l.prog w K mg base 1 "_law_cell" (sp__law_cell K ⟨fa, XOutOfRange, fa⟩) pats__law_cell := fun base => ok__law_cell D_6 T 
  have R__law_due : ∀ base : Heap, CalX l.prog w K mg base 1 "_law_due" (sp__law_due K ⟨fa, XOutOfRange, fa⟩) pats__law_due := fun base => ok__law_due D_7 T 
  have R__law_is_integer : ∀ base : Heap, CalX l.prog w K mg base 1 "_law_is_integer" (sp__law_is_integer K ⟨fa, XOutOfRange, fa⟩) pats__law_is_integer := fun base => ok__law_is_integer D_8 T 
  have R__law_refused : ∀ base : Heap, CalX l.prog w K mg base 3 "_law_refused" (sp__law_refused K ⟨fa, XOutOfRange, fa⟩) pats__law_refused := fun base => ok__law_refused D_9 T (R_edge_limit base)

  refine ⟨PySem.W.fnOf "law" "law" (defArgs s_law) (defBody s_law) (defScope s_law) .none kV10 dc10 pm10 an10 cd10 ct10, fun s v => .of_eq rfl, fun base _ _ => (ok_law (AD := ⟨fa, XOutOfRange, fa⟩) F10 T (R__law_cell base) (R_edge_limit base) (R__law_is_integer base) (R__law_samples base) (R_smooth_edge base) (R__law_due base) (R__law_refused base)).imp ?_⟩
  rintro vs H Q E ⟨a, xs, rfl, hs, hl, q⟩
  exact ⟨a, xs, rfl, hs, by rw [law_true xs hl]; rfl, q⟩
theorem walk {l : PySem.W.OpenLaw} {q : Program} {loose : List Str} {XP : (Str → Option Value) → Heap → Prop} {YP : World → Heap → Prop} {d : DefRec} {K : Params → PySem.W.Frag} (hn : l.most = some 63) (hdf : d.params.defaults = [])
    (hY : ∀ (w : World) (h : Heap), YP w h → (K w.params).In h)
    (F : ∀ (w : World) (mg : Str → Option Value) (fa : Addr) (h : Heap), (K w.params).In h → h.Ns mainGlobals mg → mg d.name = some (.ref fa) →
      ∃ fd : FuncData, (∀ (s : Shared) (u : Value), BindsTo s fd ⟨[u], []⟩ [("script", u)]) ∧ ∀ base : Heap, (K w.params).In base → base.Ns mainGlobals mg → FnOk l.prog w (K w.params) mg base CX0 4 fa fd ["script"] (spL (K w.params))) :
    PySem.W.WalkO q loose XP YP l.row.toRowW d [] (fun f vs => PySem.call f vs) :=
  L2.walk_of (n := 63) (k := 4) (x := "script") (CX := fun _ => CX0) (sp := fun w => spL (K w.params)) hn (by decide) hdf ⟨rfl, by decide, by decide⟩ hY F (fun _ _ a ns hl _ hS => ⟨a, ns, rfl, hS, hl, fun _ => rfl⟩) fun _ _ _ _ _ z => z
end Vx
open PySem PySem.W PyProof.Rows
set_option maxRecDepth 100000 in
set_option maxHeartbeats 0 in
theorem PySem.Challenge.cw_thaumatrope_k56_edges_smoothed_holds : PySem.Challenge.rw_thaumatrope_k56_edges_smoothed.Holds := by
  w_on; o_law; k_head; (case hw => w_witness2)
  k_fill
  refine Vx.walk (l := PySem.Challenge.rw_thaumatrope_k56_edges_smoothed) rfl rfl (fun w h Y => PySem.W.kIn_of Y) ?F
  case F =>
    intro w mg fa h KX G hmg
    refine' Vx.all_mk KX G hmg ?vOutOfRange ?a0 ?l0 ?c0 ?k0 ?a1 ?l1 ?c1 ?k1 ?a2 ?l2 ?c2 ?k2 ?a3 ?l3 ?c3 ?k3 ?a4 ?l4 ?c4 ?k4 ?a5 ?l5 ?c5 ?k5 ?a6 ?l6 ?c6 ?k6 ?a7 ?l7 ?c7 ?k7 ?a8 ?l8 ?c8 ?k8 ?a9 ?l9 ?c9 ?k9 ?a10 ?l10 ?c10 ?k10 ?z0 ?z1 ?z2 ?z3 ?z4 ?z5 ?z6 ?z7 ?z8 ?z9 ?exOutOfRange ?ekOutOfRange ?ebOutOfRange ?etOutOfRange ?eiOutOfRangeOutOfRange ?esOutOfRangeOutOfRange
    (case vOutOfRange => k_is)
    (case a0 => k_is)
    (case l0 => k_is)
    (case c0 => k_is)
    (case k0 => k_is)
    (case a1 => k_is)
    (case l1 => k_is)
    (case c1 => k_is)
    (case k1 => k_is)
    (case a2 => k_is)
    (case l2 => k_is)
    (case c2 => k_is)
    (case k2 => k_is)
    (case a3 => k_is)
    (case l3 => k_is)
    (case c3 => k_is)
    (case k3 => k_is)
    (case a4 => k_is)
    (case l4 => k_is)
    (case c4 => k_is)
    (case k4 => k_is)
    (case a5 => k_is)
    (case l5 => k_is)
    (case c5 => k_is)
    (case k5 => k_is)
    (case a6 => k_is)
    (case l6 => k_is)
    (case c6 => k_is)
    (case k6 => k_is)
    (case a7 => k_is)
    (case l7 => k_is)
    (case c7 => k_is)
    (case k7 => k_is)
    (case a8 => k_is)
    (case l8 => k_is)
    (case c8 => k_is)
    (case k8 => k_is)
    (case a9 => k_is)
    (case l9 => k_is)
    (case c9 => k_is)
    (case k9 => k_is)
    (case a10 => k_is)
    (case l10 => k_is)
    (case c10 => k_is)
    (case k10 => k_is)
    (case z0 => k_is)
    (case z1 => k_is)
    (case z2 => k_is)
    (case z3 => k_is)
    (case z4 => k_is)
    (case z5 => k_is)
    (case z6 => k_is)
    (case z7 => k_is)
    (case z8 => k_is)
    (case z9 => k_is)
    (case exOutOfRange => k_exc)
    (case ekOutOfRange => k_is)
    (case ebOutOfRange => k_is)
    (case etOutOfRange => k_is)
    (case eiOutOfRangeOutOfRange => k_is)
    (case esOutOfRangeOutOfRange => first | rfl | k_is)
