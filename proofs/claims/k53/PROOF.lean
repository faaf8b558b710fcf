import PyProof.Rows.All
import Wide.All
import OpenK.AllK
import Wide.FinOn
import HandS.ForMost
import HandS.Codes
import HandS.Steps
import HandS.IsInst
import HandS.Property
import HandS.Wide
import HandS.WideBits
import HandS.Exc
import HandS.Defaults
import HandS.ExcOwn
import HandS.TryOnly
import HandS.WordsExc
import HandS.ExcIs
import HandS.MakeKwOnly
import HandS.RaiseMore
import HandS.Style
import HandS.Zip
import HandS.Iter
import HandS.Star
import HandS.Walk
import PySem.Challenge.RW_thaumatrope_k53_residue_of_a_transform_b
set_option Elab.async false
set_option linter.all false
set_option maxRecDepth 100000
set_option maxHeartbeats 8000000
namespace Vx
open PySem PySem.Spec PyProof.Rows L2

/-! ### heaps -/
def SameX (m : Addr) (H H' : Hp) : Prop := ∀ b o, H b = some o → b ≠ m → H' b = some o
theorem gen_new {H H' : Hp} {p : Addr} {o : HO} (n : H p = none) (h : upd H p o = H') : Same H H' ∧ H' p = some o := by
  subst h
  exact ⟨fun b u e => by rw [upd_ne (ne_of_none e n)]; exact e, upd_same⟩
theorem gen_mut {H H' : Hp} {m : Addr} {o : HO} (h : upd H m o = H') : SameX m H H' ∧ H' m = some o := by
  subst h
  exact ⟨fun b u e n => by rw [upd_ne n]; exact e, upd_same⟩
theorem same_mut {H0 H H' : Hp} {m : Addr} (B : Same H0 H) (x : SameX m H H') (f : H0 m = none) : Same H0 H' :=
  fun b o e => x b o (B b o e) (ne_of_none e f)
theorem map_get {xs : List Int} {i : Nat} {x : V} (h : (xs.map V.int)[i]? = some x) : ∃ o, xs[i]? = some o ∧ x = .int o := by
  rw [List.getElem?_map] at h
  cases e : xs[i]? with
  | none => rw [e] at h; cases h
  | some z => rw [e] at h; exact ⟨z, rfl, (Option.some.inj h).symm⟩
theorem get_len {α : Type} {xs : List α} {i : Nat} {x : α} (h : xs[i]? = some x) : i < xs.length := (List.getElem?_eq_some_iff.mp h).1
theorem eq_int {Q : VK} {H : Hp} {a b : Int} (h : Q (.int a) H) (e : a = b) : Q (.int b) H := e ▸ h
theorem eq_bl {Q : VK} {H : Hp} {a b : Bool} (h : Q (.bl a) H) (e : a = b) : Q (.bl b) H := e ▸ h
theorem small {n : Nat} (h : n ≤ 1000000) : n < sizeLine := Nat.lt_of_le_of_lt h (by decide)
theorem smallE {n : Nat} (h : n ≤ 1000000) : n ≤ sizeLine := Nat.le_of_lt (small h)
theorem snoc_int {xs : List Int} {y : Int} {H : Hp} {p : Addr} (h : H p = some (.lst (xs.map V.int ++ [V.int y]))) : H p = some (.lst ((xs ++ [y]).map V.int)) := by
  rw [List.map_append]; exact h
theorem cat_int {xs ys : List Int} {H : Hp} {p : Addr} (h : H p = some (.lst (xs.map V.int ++ ys.map V.int))) : H p = some (.lst ((xs ++ ys).map V.int)) := by
  rw [List.map_append]; exact h
theorem cast_lst {xs ys : List Int} {H : Hp} {p : Addr} (h : H p = some (.lst (xs.map V.int))) (e : xs = ys) : H p = some (.lst (ys.map V.int)) := e ▸ h

/-! ### tests -/
theorem dT {p : Prop} [Decidable p] (h : decide p = true) : p := of_decide_eq_true h
theorem dF {p : Prop} [Decidable p] (h : ¬ decide p = true) : ¬ p := fun x => h (decide_eq_true x)
theorem iteD {p A B : Prop} [Decidable p] (h1 : p → A) (h2 : ¬ p → B) : if decide p = true then A else B := by
  by_cases h : p
  · rw [if_pos (decide_eq_true h)]; exact h1 h
  · rw [if_neg (fun x => h (of_decide_eq_true x))]; exact h2 h
theorem iteN {p A B : Prop} [Decidable p] (h1 : ¬ p → A) (h2 : p → B) : if (!decide p) = true then A else B := by
  by_cases h : p
  · rw [decide_eq_true h]; exact iteF (h2 h)
  · rw [decide_eq_false h]; exact iteT (h1 h)
theorem iteB {b : Bool} {A B : Prop} (h1 : b = true → A) (h2 : b = false → B) : if b = true then A else B := by
  cases b with
  | true => exact iteT (h1 rfl)
  | false => exact iteF (h2 rfl)
theorem iteBN {b : Bool} {A B : Prop} (h1 : b = false → A) (h2 : b = true → B) : if (!b) = true then A else B := by
  cases b with
  | true => exact iteF (h2 rfl)
  | false => exact iteT (h1 rfl)
theorem iteDT {p A B : Prop} [Decidable p] (h : p) (k : A) : if decide p = true then A else B := by
  rw [if_pos (decide_eq_true h)]; exact k
theorem iteDF {p A B : Prop} [Decidable p] (h : ¬ p) (k : B) : if decide p = true then A else B := by
  rw [if_neg (fun x => h (of_decide_eq_true x))]; exact k
theorem iteNT {p A B : Prop} [Decidable p] (h : ¬ p) (k : A) : if (!decide p) = true then A else B := iteN (fun _ => k) (fun x => (h x).elim)
theorem iteNF {p A B : Prop} [Decidable p] (h : p) (k : B) : if (!decide p) = true then A else B := iteN (fun x => (x h).elim) (fun _ => k)

/-! ### equality of lists of ints -/
theorem eqvAll_ints : ∀ xs ys : List Int, PyData.eqvAll (xs.map PyData.int) (ys.map PyData.int) = decide (xs = ys)
  | [], [] => by simp [PyData.eqvAll]
  | [], y :: ys => by simp [PyData.eqvAll]
  | x :: xs, [] => by simp [PyData.eqvAll]
  | x :: xs, y :: ys => by
    have ih := eqvAll_ints xs ys
    simp only [List.map_cons, PyData.eqvAll, PyData.eqv, ih]
    by_cases h : x = y <;> by_cases h2 : xs = ys <;> simp [h, h2]
end Vx

namespace Vx
open PySem PySem.Spec PyProof.Rows L2
section
variable {X : Cx}
def rEqLi (K : PySem.W.Frag) : R2 := fun x y H Q => ∃ (a b : Addr) (xs ys : List Int), x = .ref a ∧ y = .ref b ∧ SqL K H a (xs.map V.int) ∧ SqL K H b (ys.map V.int) ∧ Q (.bl (decide (xs = ys))) H
def rNeLi (K : PySem.W.Frag) : R2 := fun x y H Q => ∃ (a b : Addr) (xs ys : List Int), x = .ref a ∧ y = .ref b ∧ SqL K H a (xs.map V.int) ∧ SqL K H b (ys.map V.int) ∧ Q (.bl (!decide (xs = ys))) H
theorem dpAll_ints {K : PySem.W.Frag} {H : Hp} : ∀ xs : List Int, DpAll K H (xs.map V.int) (xs.map PyData.int)
  | [] => .nil
  | x :: xs => .cons (.int x) (dpAll_ints xs)
theorem dp_ints {K : PySem.W.Frag} {H : Hp} {a : Addr} {xs : List Int} (h : SqL K H a (xs.map V.int)) : Dp K H (.ref a) (.list (xs.map PyData.int)) := .lst h (dpAll_ints xs)
theorem canLay_ints : ∀ xs : List Int, PyData.canLayAll0 (xs.map PyData.int) = true
  | [] => by simp [PyData.canLayAll0]
  | x :: xs => by simp [PyData.canLayAll0, PyData.canLay0, canLay_ints xs]
theorem depth_ints : ∀ xs : List Int, PyData.depthAll (xs.map PyData.int) = 0
  | [] => by simp [PyData.depthAll]
  | x :: xs => by simp [PyData.depthAll, PyData.depth, depth_ints xs]
theorem shaped_ints (xs : List Int) : SeqAt.shaped (.list (xs.map PyData.int)) = true := by
  unfold SeqAt.shaped
  simp [PyData.canLay0, canLay_ints, PyData.depth, depth_ints]
theorem eqv_ints (xs ys : List Int) : PyData.eqv (.list (xs.map PyData.int)) (.list (ys.map PyData.int)) = decide (xs = ys) := by
  simp only [PyData.eqv]
  exact eqvAll_ints xs ys
theorem op_eqLi (hu : X.A.units + 64 < cLine) : OpR X (compareOp .Eq) (rEqLi X.K) := by
  intro pins s σ H x y v u Q I rx ry h
  obtain ⟨a, b, xs, ys, rfl, rfl, h1, h2, q⟩ := h
  exact op_eqD hu pins s σ H _ _ v u Q I rx ry ⟨_, _, dp_ints h1, dp_ints h2, shaped_ints xs, shaped_ints ys, by rw [eqv_ints]; exact q⟩
theorem op_neLi (hu : X.A.units + 64 < cLine) : OpR X (compareOp .NotEq) (rNeLi X.K) := by
  intro pins s σ H x y v u Q I rx ry h
  obtain ⟨a, b, xs, ys, rfl, rfl, h1, h2, q⟩ := h
  exact op_neD hu pins s σ H _ _ v u Q I rx ry ⟨_, _, dp_ints h1, dp_ints h2, shaped_ints xs, shaped_ints ys, by rw [eqv_ints]; exact q⟩

/-! ### items, slices, repetition, comprehensions of ints -/
def itI (xs : List Int) (i : Int) : Int := (atI xs i).getD 0
theorem atI_int {xs : List Int} {i : Int} (h : -(xs.length : Int) ≤ i ∧ i < xs.length) : atI (xs.map V.int) i = some (.int (itI xs i)) := by
  unfold itI atI
  rw [List.length_map]
  have hk : ∃ j, ixN xs.length i = some j ∧ j < xs.length := by
    unfold ixN
    by_cases h0 : 0 ≤ i
    · refine ⟨i.toNat, ?_, by omega⟩
      rw [if_pos h0, if_pos h.2]
    · refine ⟨(i + xs.length).toNat, ?_, by omega⟩
      rw [if_neg h0, if_pos h.1]
  obtain ⟨j, e, hj⟩ := hk
  rw [e]
  show (xs.map V.int)[j]? = some (V.int ((xs[j]?).getD 0))
  rw [List.getElem?_map, List.getElem?_eq_getElem hj] <;> rfl
def cutI (xs : List Int) (lo hi : Option Int) : List Int := (xs.drop (HT.sIx xs.length 0 lo)).take (HT.sIx xs.length xs.length hi - HT.sIx xs.length 0 lo)
theorem cut_int {xs : List Int} {lo hi : Option Int} {H : Hp} {p : Addr} (h : H p = some (.lst (cutV (xs.map V.int) lo hi))) : H p = some (.lst ((cutI xs lo hi).map V.int)) := by
  rw [h]
  unfold cutV cutI
  rw [List.length_map, List.map_take, List.map_drop]
def rep (xs : List Int) (k : Int) : List Int := (List.replicate k.toNat xs).flatten
theorem rep_int {xs : List Int} {k : Int} {H : Hp} {p : Addr} (h : H p = some (.lst (List.replicate k.toNat (xs.map V.int)).flatten)) : H p = some (.lst ((rep xs k).map V.int)) := by
  rw [h]
  unfold rep
  rw [List.map_flatten, List.map_replicate]
theorem divW_lit {i j : Int} (h : 0 < j) (h2 : j.natAbs.log2 < 9000) : CDivW i j := ⟨h, h2⟩
theorem divW_small {i j : Int} (h : 0 < j) (h2 : j < 2 ^ 128) : CDivW i j := wide_div h (show j.natAbs < 2 ^ 128 by omega) (by decide) (by decide)
theorem comp_list {xs : List Int} {i : Nat} {x y : Int} {f : Int → Int} {H : Hp} {D : Addr} (hi : xs[i]? = some x) (h : H D = some (.lst (((xs.take i).map f).map V.int ++ [V.int y]))) (e : f x = y) : H D = some (.lst (((xs.take (i + 1)).map f).map V.int)) := by
  rw [h, ← e, List.take_succ, hi, List.map_append, List.map_append] <;> rfl
theorem comp_done {xs : List Int} {f : Int → Int} {H : Hp} {D : Addr} (h : H D = some (.lst (((xs.take (xs.map V.int).length).map f).map V.int))) : H D = some (.lst ((xs.map f).map V.int)) := by
  rw [List.length_map, List.take_length] at h
  exact h
theorem comp_range {i : Nat} {y : Int} {f : Nat → Int} {H : Hp} {D : Addr} (h : H D = some (.lst (((List.range i).map f).map V.int ++ [V.int y]))) (e : f i = y) : H D = some (.lst (((List.range (i + 1)).map f).map V.int)) := by
  rw [h, ← e, List.range_succ, List.map_append, List.map_append] <;> rfl
theorem iteBT {b : Bool} {A B : Prop} (h : b = true) (k : A) : if b = true then A else B := by rw [if_pos h]; exact k
theorem iteBF {b : Bool} {A B : Prop} (h : b = false) (k : B) : if b = true then A else B := by rw [if_neg (by rw [h]; decide)]; exact k
theorem take_succ_get {α : Type} {xs : List α} {i : Nat} {x : α} (hi : xs[i]? = some x) : xs.take (i + 1) = xs.take i ++ [x] := by rw [List.take_succ, hi] <;> rfl
end

/-! ### defs of the module, as callers see them -/
section
variable {P : Program} {w : World} {K : PySem.W.Frag} {mg : Str → Option Value} {base : Heap}
structure DefIn (K : PySem.W.Frag) (mg : Str → Option Value) (x : Str) (st : Stmt) (ps : List Str) : Prop where
  ex : ∃ (f : Addr) (fd : FuncData), Fun K x x st f fd ∧ mg x = some (.ref f) ∧ Binds K fd ps []
structure Cal (P : Program) (w : World) (K : PySem.W.Frag) (mg : Str → Option Value) (base : Heap) (k : Nat) (x : Str) (sp : Sp) : Prop where
  ex : ∃ (f : Addr) (fd : FuncData) (ps : List Str), FnOk P w K mg base CX0 k f fd ps sp ∧ mg x = some (.ref f) ∧ PySem.W.keepIn K (.ref f) = true ∧ Binds K fd ps []
theorem DefIn.ok {x : Str} {st : Stmt} {N ps : List Str} {k : Nat} {sp : Sp} (D : DefIn K mg x st ps) (S : FnScope N ps (defScope st)) (len : ∀ vs H Q E, sp vs H Q E → vs.length = ps.length)
    (hbody : ∀ (f : Addr) (cdv : Value) (A : Around) (outer : List Env) (s : Shared) (H : Hp) (vs : List V) (Q : VK) (E : XK), Room k (A.deeper (envOfC x (defScope st) s.heap.objs.size f cdv)) → sp vs H Q E →
      ∃ t, PSs (cxOf CX0 P w K mg base N x (defScope st) f cdv A outer s H E).nox (defBody st) t ∧ t { nx := fun _ H' => Q .non H', rt := Q } (start N vs) H) : Cal P w K mg base (k + 1) x sp := by
  obtain ⟨f, fd, F, hm, b⟩ := D.ex
  exact ⟨f, fd, ps, F.ok S len (fun cdv A outer s H vs Q E hr h => hbody f cdv A outer s H vs Q E hr h), hm, F.kp, b⟩
end
section
variable {X : Cx} {k j : Nat} {x : Str} {sp : Sp} {p pos : Pos} {e : Expr} {es : List Expr} {t : TA}
theorem vx_call (c : Cal X.prog X.w X.K X.mg X.base k x sp) (hr : Room j X.A) (hk : k ≤ j) (hg : Gl X x) (ha : PA X (e :: es) t)
    (hdb : (x == ("__debug__" : Str)) = false := by decide) (he : starEach (e :: es) X.env = (false, eval e X.env) :: starEach es X.env := by rfl) (hpl : (backTo pos (starEach es X.env)).any (·.1) = false := by rfl) :
    PE X (.Call (.Name x p) (e :: es) [] pos) (tCall sp [] E0 t) := by
  obtain ⟨f, fd, ps, F, hm, kp, b⟩ := c.ex
  exact pe_call F (hr.mono hk) hg hm kp b .nil pass0 ha hdb he hpl
end
end Vx

namespace Vx
open PySem PySem.Spec PyProof.Rows L2
section
variable {σ : L2.St} {H : Hp} {ta tb : TE} {x y z : V} {t : TT}
theorem vv_and {a b : Bool} (h1 : Val ta σ H (.bl a)) (h2 : Val tb σ H (.bl b)) : Val (tAndV ta tb) σ H (.bl (a && b)) := fun Q q => h1 _ ⟨a, rfl, by
  cases a with
  | true => exact iteT (h2 Q q)
  | false => exact iteF q⟩
theorem vv_or {a b : Bool} (h1 : Val ta σ H (.bl a)) (h2 : Val tb σ H (.bl b)) : Val (tOrV ta tb) σ H (.bl (a || b)) := fun Q q => h1 _ ⟨a, rfl, by
  cases a with
  | true => exact iteT q
  | false => exact iteF (h2 Q q)⟩
theorem vv_not {a : Bool} (h1 : Val ta σ H (.bl a)) : Val (tNotV ta) σ H (.bl (!a)) := fun Q q => h1 _ ⟨a, rfl, q⟩
theorem vv_un {r : V → Hp → VK → Prop} (ha : Val ta σ H x) (hr : ∀ Q : VK, Q z H → r x H Q) : Val (tUn r ta) σ H z := fun Q q => ha _ (hr Q q)
theorem vv_cmp {p : Int → Int → Bool} (ha : Val ta σ H x) (hb : Val tb σ H y) (hr : ∀ Q : VK, Q z H → ∃ i j, x = .int i ∧ y = .int j ∧ Q (.bl (p i j)) H) : Val (tCmp p ta tb) σ H z := fun Q q => ha _ (hb _ (hr Q q))
theorem vv_call1 {r : List V → Hp → VK → Prop} (ha : Val ta σ H x) (hr : ∀ Q : VK, Q z H → r [x] H Q) : Val (tCB r (tCons ta tNil)) σ H z := fun Q q => ha _ (hr Q q)
theorem vt_cmp {b : Bool} (h : Val ta σ H (.bl b)) : Ans (tB ta) σ H b := fun Q q => h _ ⟨b, rfl, q⟩
theorem vt_val {b : Bool} (h : Val ta σ H (.bl b)) : Ans (tB ta) σ H b := fun Q q => h _ ⟨b, rfl, q⟩
theorem vt_int {i : Int} {K : PySem.W.Frag} (h : Val ta σ H (.int i)) : Ans (fun σ H Q => ta σ H fun x H' => ∃ k, TruV K x H' k ∧ Q k H') σ H (i != 0) := fun Q q => h _ ⟨_, rfl, q⟩
theorem vv_if {p : Prop} [Decidable p] {a b : Int} (ht : Ans t σ H (decide p)) (hx : Val ta σ H (.int a)) (hy : Val tb σ H (.int b)) : Val (tIf t ta tb) σ H (.int (if p then a else b)) := fun Q q => ht _ (by
  by_cases h : p
  · rw [if_pos h] at q; exact iteDT h (hx Q q)
  · rw [if_neg h] at q; exact iteDF h (hy Q q))
theorem vv_ifb {c : Bool} {a b : Int} (ht : Ans t σ H c) (hx : Val ta σ H (.int a)) (hy : Val tb σ H (.int b)) : Val (tIf t ta tb) σ H (.int (if c = true then a else b)) := fun Q q => ht _ (by
  cases c with
  | true => exact iteT (hx Q q)
  | false => exact iteF (hy Q q))
end
end Vx

namespace Vx
open PySem PySem.Spec PyProof.Rows L2
def rLenLi (K : PySem.W.Frag) : List V → Hp → VK → Prop := fun xs H Q => ∃ (p : Addr) (ns : List Int), xs = [.ref p] ∧ SqL K H p (ns.map V.int) ∧ Q (.int (ns.length : Int)) H
theorem call_lenLi {X : Cx} : CallR X (.builtin "len") (rLenLi X.K) := by
  intro pins s σ H xs us Q I r h
  obtain ⟨p, ns, rfl, hs, q⟩ := h
  exact call_len_seq pins s σ H _ us Q I r ⟨p, _, rfl, Or.inl hs, by rw [List.length_map]; exact q⟩
end Vx

namespace Vx
open PySem PySem.Spec PyProof.Rows L2
section
variable {X : Cx} {K : PySem.W.Frag}
theorem ix_listK (hK : X.K = K := by rfl) : IxR X (rIxL K) := hK ▸ ix_list
theorem sl_listK (hK : X.K = K := by rfl) : SlR X (rSlL K) := hK ▸ sl_list
theorem call_lenLiK (hK : X.K = K := by rfl) : CallR X (.builtin "len") (rLenLi K) := hK ▸ call_lenLi
theorem op_eqLiK (hu : X.A.units + 64 < cLine) (hK : X.K = K := by rfl) : OpR X (compareOp .Eq) (rEqLi K) := hK ▸ op_eqLi hu
theorem op_neLiK (hu : X.A.units + 64 < cLine) (hK : X.K = K := by rfl) : OpR X (compareOp .NotEq) (rNeLi K) := hK ▸ op_neLi hu
theorem pi_listK {tg l : Expr} {tl : TE} (hl : PE X l tl) (hK : X.K = K := by rfl) : PI X tg l (iList K tl) := hK ▸ pi_list hl
theorem cr_sumK (hc : X.calm = true) (hK : X.K = K := by rfl) : CallR X (.builtin "sum") (rSum K) := hK ▸ cr_sum hc
theorem cr_maxK (hc : X.calm = true) (hK : X.K = K := by rfl) : CallR X (.builtin "max") (rMax K) := hK ▸ cr_max hc
theorem cr_minK (hc : X.calm = true) (hK : X.K = K := by rfl) : CallR X (.builtin "min") (rMin K) := hK ▸ cr_min hc
end
end Vx

namespace Vx
open PySem PySem.Spec PyProof.Rows L2
theorem tyes_go {σ : L2.St} {H : Hp} {f g : Hp → Prop} (h : f H) : tYes σ H (fun b H3 => if b = true then f H3 else g H3) := by
  show if true = true then f H else g H
  exact iteT h
end Vx

/-! # second part: data of any depth, the stable heap G, the owned addresses O -/
namespace Vx
open PySem PySem.Spec PyProof.Rows L2
mutual
inductive Rp (H : Hp) : V → PyData → Prop
  | non : Rp H .non .none
  | bl (b : Bool) : Rp H (.bl b) (.bool b)
  | int (i : Int) : Rp H (.int i) (.int i)
  | str (x : Str) : Rp H (.str x) (.str x)
  | lst {a : Addr} {xs : List V} {ds : List PyData} : H a = some (.lst xs) → RpAll H xs ds → Rp H (.ref a) (.list ds)
  | tup {a : Addr} {xs : List V} {ds : List PyData} : H a = some (.tup xs) → RpAll H xs ds → Rp H (.ref a) (.tuple ds)
inductive RpAll (H : Hp) : List V → List PyData → Prop
  | nil : RpAll H [] []
  | cons {v : V} {vs : List V} {d : PyData} {ds : List PyData} : Rp H v d → RpAll H vs ds → RpAll H (v :: vs) (d :: ds)
end
mutual
theorem Rp.mono {H H' : Hp} (e : Same H H') : ∀ {v : V} {d : PyData}, Rp H v d → Rp H' v d
  | _, _, .non => .non
  | _, _, .bl b => .bl b
  | _, _, .int i => .int i
  | _, _, .str x => .str x
  | _, _, .lst h r => .lst (e _ _ h) (RpAll.mono e r)
  | _, _, .tup h r => .tup (e _ _ h) (RpAll.mono e r)
theorem RpAll.mono {H H' : Hp} (e : Same H H') : ∀ {vs : List V} {ds : List PyData}, RpAll H vs ds → RpAll H' vs ds
  | _, _, .nil => .nil
  | _, _, .cons a b => .cons (Rp.mono e a) (RpAll.mono e b)
end
mutual
theorem Rp.dp {K : PySem.W.Frag} {H : Hp} : ∀ {v : V} {d : PyData}, Rp H v d → Dp K H v d
  | _, _, .non => .non
  | _, _, .bl b => .bl b
  | _, _, .int i => .int i
  | _, _, .str x => .str x
  | _, _, .lst h r => .lst (SqL.of h) (RpAll.dp r)
  | _, _, .tup h r => .tup (SqT.of h) (RpAll.dp r)
theorem RpAll.dp {K : PySem.W.Frag} {H : Hp} : ∀ {vs : List V} {ds : List PyData}, RpAll H vs ds → DpAll K H vs ds
  | _, _, .nil => .nil
  | _, _, .cons a b => .cons (Rp.dp a) (RpAll.dp b)
end
theorem RpAll.append {H : Hp} : ∀ {xs ys : List V} {ds es : List PyData}, RpAll H xs ds → RpAll H ys es → RpAll H (xs ++ ys) (ds ++ es)
  | _, _, _, _, .nil, s => s
  | _, _, _, _, .cons r t, s => .cons r (RpAll.append t s)
theorem RpAll.ints {H : Hp} : ∀ xs : List Int, RpAll H (xs.map V.int) (xs.map PyData.int)
  | [] => .nil
  | x :: xs => .cons (.int x) (RpAll.ints xs)
theorem RpAll.bls {H : Hp} : ∀ xs : List Bool, RpAll H (xs.map V.bl) (xs.map PyData.bool)
  | [] => .nil
  | x :: xs => .cons (.bl x) (RpAll.bls xs)
theorem RpAll.one {H : Hp} {v : V} {d : PyData} (h : Rp H v d) : RpAll H [v] [d] := .cons h .nil
theorem RpAll.len {H : Hp} : ∀ {vs : List V} {ds : List PyData}, RpAll H vs ds → vs.length = ds.length
  | _, _, .nil => rfl
  | _, _, .cons _ t => by rw [List.length_cons, List.length_cons, RpAll.len t]
theorem RpAll.at {H : Hp} : ∀ {vs : List V} {ds : List PyData} {i : Nat} {v : V}, RpAll H vs ds → vs[i]? = some v → ∃ d, ds[i]? = some d ∧ Rp H v d
  | _, _, _, _, .nil, h => by simp at h
  | _, _, 0, _, .cons r _, h => by
    simp at h
    subst h
    exact ⟨_, rfl, r⟩
  | _, _, i + 1, _, .cons _ t, h => by
    obtain ⟨d, h1, h2⟩ := RpAll.at (i := i) t (by simpa using h)
    exact ⟨d, by simpa using h1, h2⟩
theorem RpAll.at' {H : Hp} : ∀ {vs : List V} {ds : List PyData} {i : Nat} {d : PyData}, RpAll H vs ds → ds[i]? = some d → ∃ v, vs[i]? = some v ∧ Rp H v d
  | _, _, _, _, .nil, h => by simp at h
  | _, _, 0, _, .cons r _, h => by
    simp at h
    subst h
    exact ⟨_, rfl, r⟩
  | _, _, i + 1, _, .cons _ t, h => by
    obtain ⟨v, h1, h2⟩ := RpAll.at' (i := i) t (by simpa using h)
    exact ⟨v, by simpa using h1, h2⟩
theorem RpAll.take {H : Hp} : ∀ (n : Nat) {vs : List V} {ds : List PyData}, RpAll H vs ds → RpAll H (vs.take n) (ds.take n)
  | 0, _, _, _ => by simpa using RpAll.nil
  | n + 1, _, _, .nil => by simpa using RpAll.nil
  | n + 1, _, _, .cons r t => .cons r (RpAll.take n t)
theorem RpAll.drop {H : Hp} : ∀ (n : Nat) {vs : List V} {ds : List PyData}, RpAll H vs ds → RpAll H (vs.drop n) (ds.drop n)
  | 0, _, _, r => r
  | n + 1, _, _, .nil => by simpa using RpAll.nil
  | n + 1, _, _, .cons r t => RpAll.drop n t
theorem RpAll.set {H : Hp} {v : V} {d : PyData} (h : Rp H v d) : ∀ (n : Nat) {vs : List V} {ds : List PyData}, RpAll H vs ds → RpAll H (vs.set n v) (ds.set n d)
  | _, _, _, .nil => .nil
  | 0, _, _, .cons _ t => .cons h t
  | n + 1, _, _, .cons r t => .cons r (RpAll.set h n t)
theorem RpAll.rep {H : Hp} {vs : List V} {ds : List PyData} (h : RpAll H vs ds) : ∀ n : Nat, RpAll H (List.replicate n vs).flatten (List.replicate n ds).flatten
  | 0 => by simpa using RpAll.nil
  | n + 1 => by
    rw [List.replicate_succ, List.flatten_cons, List.replicate_succ, List.flatten_cons]
    exact RpAll.append h (RpAll.rep h n)
theorem RpAll.get {α : Type} {f : α → PyData} {H : Hp} {vs : List V} {xs : List α} {i : Nat} {v : V} (r : RpAll H vs (xs.map f)) (h : vs[i]? = some v) : ∃ x, xs[i]? = some x ∧ Rp H v (f x) := by
  obtain ⟨d, h1, h2⟩ := RpAll.at r h
  rw [List.getElem?_map] at h1
  cases e : xs[i]? with
  | none => rw [e] at h1; cases h1
  | some x =>
    rw [e] at h1
    have : f x = d := Option.some.inj h1
    exact ⟨x, rfl, this ▸ h2⟩
/-- the item at an index, data -/
theorem RpAll.ix {α : Type} {f : α → PyData} {H : Hp} {vs : List V} {xs : List α} {k : Int} (r : RpAll H vs (xs.map f)) (h : -(xs.length : Int) ≤ k ∧ k < xs.length) : ∃ v x, atI vs k = some v ∧ atI xs k = some x ∧ Rp H v (f x) := by
  have hl : vs.length = xs.length := by rw [r.len, List.length_map]
  have hk : ∃ j, ixN xs.length k = some j ∧ j < xs.length := by
    unfold ixN
    by_cases h0 : 0 ≤ k
    · refine ⟨k.toNat, ?_, by omega⟩
      rw [if_pos h0, if_pos h.2]
    · refine ⟨(k + xs.length).toNat, ?_, by omega⟩
      rw [if_neg h0, if_pos h.1]
  obtain ⟨j, e, hj⟩ := hk
  have hx := List.getElem?_eq_getElem hj
  obtain ⟨v, h1, h2⟩ := RpAll.at' (i := j) (d := f xs[j]) r (by rw [List.getElem?_map, hx] <;> rfl)
  refine ⟨v, xs[j], ?_, ?_, h2⟩
  · unfold atI
    rw [hl, e]
    exact h1
  · unfold atI
    rw [e]
    exact hx

/-! ### types -/
def encL {α : Type} (f : α → PyData) (xs : List α) : PyData := .list (xs.map f)
def encT2 {α β : Type} (f : α → PyData) (g : β → PyData) (p : α × β) : PyData := .tuple [f p.1, g p.2]
def encT3 {α β γ : Type} (f : α → PyData) (g : β → PyData) (h : γ → PyData) (p : α × β × γ) : PyData := .tuple [f p.1, g p.2.1, h p.2.2]
def encT4 {α β γ δ : Type} (f : α → PyData) (g : β → PyData) (h : γ → PyData) (i : δ → PyData) (p : α × β × γ × δ) : PyData := .tuple [f p.1, g p.2.1, h p.2.2.1, i p.2.2.2]
structure EncOk {α : Type} [DecidableEq α] (n : Nat) (f : α → PyData) : Prop where
  lay : ∀ x, PyData.canLay0 (f x) = true
  dep : ∀ x, PyData.depth (f x) ≤ n
  eqv : ∀ x y, PyData.eqv (f x) (f y) = decide (x = y)
theorem encOk_int : EncOk 0 PyData.int := ⟨fun _ => by simp [PyData.canLay0], fun _ => by simp [PyData.depth], fun x y => by simp [PyData.eqv]; by_cases h : x = y <;> simp [h]⟩
theorem encOk_bool : EncOk 0 PyData.bool := ⟨fun _ => by simp [PyData.canLay0], fun _ => by simp [PyData.depth], fun x y => by cases x <;> cases y <;> simp [PyData.eqv]⟩
section
variable {α β γ δ : Type} [DecidableEq α] [DecidableEq β] [DecidableEq γ] [DecidableEq δ] {n m l o : Nat} {f : α → PyData} {g : β → PyData} {h : γ → PyData} {i : δ → PyData}
theorem lay_map (ok : EncOk n f) : ∀ xs : List α, PyData.canLayAll0 (xs.map f) = true
  | [] => by simp [PyData.canLayAll0]
  | x :: xs => by simp [PyData.canLayAll0, ok.lay x, lay_map ok xs]
theorem dep_map (ok : EncOk n f) : ∀ xs : List α, PyData.depthAll (xs.map f) ≤ n
  | [] => by simp [PyData.depthAll]
  | x :: xs => by
    have h1 := ok.dep x
    have h2 := dep_map ok xs
    simp only [List.map_cons, PyData.depthAll]
    omega
theorem eqv_map (ok : EncOk n f) : ∀ xs ys : List α, PyData.eqvAll (xs.map f) (ys.map f) = decide (xs = ys)
  | [], [] => by simp [PyData.eqvAll]
  | [], y :: ys => by simp [PyData.eqvAll]
  | x :: xs, [] => by simp [PyData.eqvAll]
  | x :: xs, y :: ys => by
    have ih := eqv_map ok xs ys
    simp only [List.map_cons, PyData.eqvAll, ok.eqv, ih]
    by_cases h : x = y <;> by_cases h2 : xs = ys <;> simp [h, h2]
theorem encOk_L (ok : EncOk n f) : EncOk (n + 1) (encL f) := ⟨fun xs => by simp [encL, PyData.canLay0, lay_map ok], fun xs => by
  have := dep_map ok xs
  simp only [encL, PyData.depth]
  omega, fun xs ys => by simp only [encL, PyData.eqv]; exact eqv_map ok xs ys⟩
theorem encOk_T2 (ok : EncOk n f) (ok2 : EncOk m g) : EncOk (max n m + 1) (encT2 f g) := ⟨fun x => by simp [encT2, PyData.canLay0, PyData.canLayAll0, ok.lay, ok2.lay], fun x => by
  have h1 := ok.dep x.1
  have h2 := ok2.dep x.2
  simp only [encT2, PyData.depth, PyData.depthAll]
  omega, fun x y => by
  obtain ⟨a, b⟩ := x
  obtain ⟨c, d⟩ := y
  simp only [encT2, PyData.eqv, PyData.eqvAll, ok.eqv, ok2.eqv, Prod.mk.injEq]
  by_cases h1 : a = c <;> by_cases h2 : b = d <;> simp [h1, h2]⟩
theorem encOk_T3 (ok : EncOk n f) (ok2 : EncOk m g) (ok3 : EncOk l h) : EncOk (max n (max m l) + 1) (encT3 f g h) := ⟨fun x => by simp [encT3, PyData.canLay0, PyData.canLayAll0, ok.lay, ok2.lay, ok3.lay], fun x => by
  have h1 := ok.dep x.1
  have h2 := ok2.dep x.2.1
  have h3 := ok3.dep x.2.2
  simp only [encT3, PyData.depth, PyData.depthAll]
  omega, fun x y => by
  obtain ⟨a, b, e⟩ := x
  obtain ⟨c, d, e'⟩ := y
  simp only [encT3, PyData.eqv, PyData.eqvAll, ok.eqv, ok2.eqv, ok3.eqv, Prod.mk.injEq]
  by_cases h1 : a = c <;> by_cases h2 : b = d <;> by_cases h3 : e = e' <;> simp [h1, h2, h3]⟩
theorem encOk_T4 (ok : EncOk n f) (ok2 : EncOk m g) (ok3 : EncOk l h) (ok4 : EncOk o i) : EncOk (max n (max m (max l o)) + 1) (encT4 f g h i) := ⟨fun x => by simp [encT4, PyData.canLay0, PyData.canLayAll0, ok.lay, ok2.lay, ok3.lay, ok4.lay], fun x => by
  have h1 := ok.dep x.1
  have h2 := ok2.dep x.2.1
  have h3 := ok3.dep x.2.2.1
  have h4 := ok4.dep x.2.2.2
  simp only [encT4, PyData.depth, PyData.depthAll]
  omega, fun x y => by
  obtain ⟨a, b, e, u⟩ := x
  obtain ⟨c, d, e', u'⟩ := y
  simp only [encT4, PyData.eqv, PyData.eqvAll, ok.eqv, ok2.eqv, ok3.eqv, ok4.eqv, Prod.mk.injEq]
  by_cases h1 : a = c <;> by_cases h2 : b = d <;> by_cases h3 : e = e' <;> by_cases h4 : u = u' <;> simp [h1, h2, h3, h4]⟩
end
section
variable {X : Cx} {α : Type} [DecidableEq α] {n : Nat} {f : α → PyData}
def rEqT (f : α → PyData) : R2 := fun x y H Q => ∃ (a b : α), Rp H x (f a) ∧ Rp H y (f b) ∧ Q (.bl (decide (a = b))) H
def rNeT (f : α → PyData) : R2 := fun x y H Q => ∃ (a b : α), Rp H x (f a) ∧ Rp H y (f b) ∧ Q (.bl (!decide (a = b))) H
theorem shaped_of (ok : EncOk n f) (hn : n ≤ 64) (a : α) : SeqAt.shaped (f a) = true := by
  unfold SeqAt.shaped
  have h := ok.dep a
  rw [ok.lay]
  simp
  omega
theorem op_eqT (ok : EncOk n f) (hu : X.A.units + 64 < cLine) (hn : n ≤ 64 := by decide) : OpR X (compareOp .Eq) (rEqT f) := by
  intro pins s σ H x y v u Q I rx ry h
  obtain ⟨a, b, h1, h2, q⟩ := h
  exact op_eqD hu pins s σ H _ _ v u Q I rx ry ⟨_, _, h1.dp, h2.dp, shaped_of ok hn a, shaped_of ok hn b, by rw [ok.eqv]; exact q⟩
theorem op_neT (ok : EncOk n f) (hu : X.A.units + 64 < cLine) (hn : n ≤ 64 := by decide) : OpR X (compareOp .NotEq) (rNeT f) := by
  intro pins s σ H x y v u Q I rx ry h
  obtain ⟨a, b, h1, h2, q⟩ := h
  exact op_neD hu pins s σ H _ _ v u Q I rx ry ⟨_, _, h1.dp, h2.dp, shaped_of ok hn a, shaped_of ok hn b, by rw [ok.eqv]; exact q⟩
end
section
variable {H : Hp} {v : V} {α β γ δ : Type} {f : α → PyData} {g : β → PyData} {h : γ → PyData} {i : δ → PyData}
theorem rp_int {x : Int} (r : Rp H v (.int x)) : v = .int x := by cases r; rfl
theorem rp_bool {x : Bool} (r : Rp H v (.bool x)) : v = .bl x := by cases r; rfl
theorem rp_str {x : Str} (r : Rp H v (.str x)) : v = .str x := by cases r; rfl
theorem rp_list {xs : List α} (r : Rp H v (encL f xs)) : ∃ a vs, v = .ref a ∧ H a = some (.lst vs) ∧ RpAll H vs (xs.map f) := by
  unfold encL at r
  cases r with
  | lst h1 h2 => exact ⟨_, _, rfl, h1, h2⟩
theorem rpAll_ints : ∀ {vs : List V} {xs : List Int}, RpAll H vs (xs.map PyData.int) → vs = xs.map V.int
  | _, [], .nil => rfl
  | _, x :: xs, .cons r t => by rw [rp_int r, rpAll_ints t] <;> rfl
theorem rp_ints {xs : List Int} (r : Rp H v (encL PyData.int xs)) : ∃ a, v = .ref a ∧ H a = some (.lst (xs.map V.int)) := by
  obtain ⟨a, vs, e, h1, h2⟩ := rp_list r
  rw [rpAll_ints h2] at h1
  exact ⟨a, e, h1⟩
theorem rp_tup2 {x : α × β} (r : Rp H v (encT2 f g x)) : ∃ a v1 v2, v = .ref a ∧ H a = some (.tup [v1, v2]) ∧ Rp H v1 (f x.1) ∧ Rp H v2 (g x.2) := by
  unfold encT2 at r
  cases r with
  | tup h1 h2 =>
    cases h2 with
    | cons a b =>
      cases b with
      | cons b c =>
        cases c
        exact ⟨_, _, _, rfl, h1, a, b⟩
theorem rp_tup3 {x : α × β × γ} (r : Rp H v (encT3 f g h x)) : ∃ a v1 v2 v3, v = .ref a ∧ H a = some (.tup [v1, v2, v3]) ∧ Rp H v1 (f x.1) ∧ Rp H v2 (g x.2.1) ∧ Rp H v3 (h x.2.2) := by
  unfold encT3 at r
  cases r with
  | tup h1 h2 =>
    cases h2 with
    | cons a b =>
      cases b with
      | cons b c =>
        cases c with
        | cons c d =>
          cases d
          exact ⟨_, _, _, _, rfl, h1, a, b, c⟩
theorem rp_mk_list {a : Addr} {vs : List V} {xs : List α} (h1 : H a = some (.lst vs)) (h2 : RpAll H vs (xs.map f)) : Rp H (.ref a) (encL f xs) := .lst h1 h2
theorem rp_mk_ints {a : Addr} {xs : List Int} (h1 : H a = some (.lst (xs.map V.int))) : Rp H (.ref a) (encL PyData.int xs) := .lst h1 (RpAll.ints xs)
theorem rp_mk2 {a : Addr} {v1 v2 : V} {x : α} {y : β} (h1 : H a = some (.tup [v1, v2])) (r1 : Rp H v1 (f x)) (r2 : Rp H v2 (g y)) : Rp H (.ref a) (encT2 f g (x, y)) := .tup h1 (.cons r1 (.cons r2 .nil))
theorem rp_mk3 {a : Addr} {v1 v2 v3 : V} {x : α} {y : β} {z : γ} (h1 : H a = some (.tup [v1, v2, v3])) (r1 : Rp H v1 (f x)) (r2 : Rp H v2 (g y)) (r3 : Rp H v3 (h z)) : Rp H (.ref a) (encT3 f g h (x, y, z)) := .tup h1 (.cons r1 (.cons r2 (.cons r3 .nil)))
end

/-! ### the two heaps -/
def SameXs (L : List Addr) (H H' : Hp) : Prop := ∀ b o, H b = some o → b ∉ L → H' b = some o
theorem SameXs.of {H H' : Hp} {m : Addr} (x : SameX m H H') : SameXs [m] H H' := fun b o e n => x b o e (fun z => n (by rw [z]; exact List.mem_cons_self))
theorem ni1 {b m : Addr} (h : b ≠ m) : b ∉ [m] := by simpa using h
theorem ni2 {b m n : Addr} (h : b ≠ m) (h2 : b ≠ n) : b ∉ [m, n] := by simp [h, h2]
theorem ni3 {b m n o : Addr} (h : b ≠ m) (h2 : b ≠ n) (h3 : b ≠ o) : b ∉ [m, n, o] := by simp [h, h2, h3]
theorem ni4 {b m n o p : Addr} (h : b ≠ m) (h2 : b ≠ n) (h3 : b ≠ o) (h4 : b ≠ p) : b ∉ [m, n, o, p] := by simp [h, h2, h3, h4]
def hideL (L : List Addr) (H : Hp) : Hp := fun b => if b ∈ L then none else H b
theorem hideL_same (L : List Addr) (H : Hp) : Same (hideL L H) H := fun b o e => by
  unfold hideL at e
  split at e
  · cases e
  · exact e
theorem hideL_in {L : List Addr} {H : Hp} {b : Addr} (h : b ∈ L) : hideL L H b = none := if_pos h
theorem hideL_out {L : List Addr} {H : Hp} {b : Addr} (h : b ∉ L) : hideL L H b = H b := if_neg h
/-- M: owned from outside; H0, G0: at the entry; G: what stays as it is; O: what may change -/
structure Sep (M : List Addr) (H0 G0 G H : Hp) (O : List Addr) : Prop where
  base : SameXs M H0 H
  pm : ∀ a ∈ M, H a ≠ none
  sG : Same G H
  g0 : Same G0 G
  gn : ∀ b, H0 b ≠ none → G0 b = none → G b = none
  ow : ∀ a ∈ O, G a = none ∧ H a ≠ none ∧ (a ∈ M ∨ H0 a = none)
theorem all_nil {P : Addr → Prop} : ∀ x ∈ ([] : List Addr), P x := fun x h => by cases h
theorem all_cons {P : Addr → Prop} {a : Addr} {l : List Addr} (h : P a) (t : ∀ x ∈ l, P x) : ∀ x ∈ a :: l, P x := fun x hx => by
  cases hx with
  | head => exact h
  | tail _ hx => exact t x hx
theorem some_ne {H : Hp} {a : Addr} {o : HO} (h : H a = some o) : H a ≠ none := by
  rw [h]
  exact fun z => nomatch z
theorem same_ne {H H' : Hp} {a : Addr} (e : Same H H') (h : H a ≠ none) : H' a ≠ none := by
  cases q : H a with
  | none => exact absurd q h
  | some o => exact some_ne (e a o q)
section
variable {M : List Addr} {H0 G0 G H H' : Hp} {O : List Addr} {p m : Addr} {o : HO}
theorem Sep.start (M : List Addr) (H : Hp) (hM : ∀ a ∈ M, H a ≠ none) : Sep M H (hideL M H) (hideL M H) H M :=
  ⟨fun _ _ e _ => e, hM, hideL_same M H, Same.refl _, fun _ _ e => e, fun a ha => ⟨hideL_in ha, hM a ha, .inl ha⟩⟩
theorem Sep.startG {G H : Hp} (e : Same G H) : Sep [] H G G H [] := ⟨fun _ _ e _ => e, all_nil, e, Same.refl _, fun _ _ e => e, fun a ha => by cases ha⟩
theorem Sep.start0 (H : Hp) : Sep [] H H H H [] := Sep.startG (Same.refl H)
theorem Sep.b0 (S : Sep [] H0 G0 G H O) : Same H0 H := fun b o e => S.base b o e List.not_mem_nil
theorem Sep.free (S : Sep M H0 G0 G H O) {q : Addr} (n : H q = none) : H0 q = none := by
  cases e : H0 q with
  | none => rfl
  | some o =>
    by_cases h : q ∈ M
    · exact absurd n (S.pm q h)
    · rw [S.base q o e h] at n
      cases n
theorem Sep.same (S : Sep M H0 G0 G H O) (e : Same H H') : Sep M H0 G0 G H' O :=
  ⟨fun b o h n => e b o (S.base b o h n), fun a ha => same_ne e (S.pm a ha), S.sG.trans e, S.g0, S.gn, fun a ha => ⟨(S.ow a ha).1, same_ne e (S.ow a ha).2.1, (S.ow a ha).2.2⟩⟩
theorem Sep.gfree (S : Sep M H0 G0 G H O) {q : Addr} (n : H q = none) : G q = none := by
  cases e : G q with
  | none => rfl
  | some o => rw [S.sG q o e] at n; cases n
theorem Sep.new (S : Sep M H0 G0 G H O) (n : H p = none) (e : Same H H') (h : H' p = some o) (hm : H0 p = none) : Sep M H0 G0 G H' (p :: O) := by
  have S1 := S.same e
  refine ⟨S1.base, S1.pm, S1.sG, S1.g0, S1.gn, fun a ha => ?_⟩
  cases ha with
  | head => exact ⟨S.gfree n, some_ne h, .inr hm⟩
  | tail _ ha => exact S1.ow a ha
theorem Sep.grow (S : Sep M H0 G0 G H O) (n : H p = none) (e : Same H H') (h : H' p = some o) (hm : H0 p = none) : ∃ G', Same G G' ∧ G' p = some o ∧ Sep M H0 G0 G' H' O := by
  have S1 := S.same e
  have ng := S.gfree n
  refine ⟨upd G p o, fun b u q => by rw [upd_ne (ne_of_none q ng)]; exact q, upd_same, S1.base, S1.pm, fun b u q => ?_, fun b u q => ?_, fun b hb gb => ?_, fun a ha => ?_⟩
  · by_cases z : b = p
    · subst z
      rw [upd_same] at q
      exact q ▸ h
    · rw [upd_ne z] at q
      exact S1.sG b u q
  · have := S.g0 b u q
    rw [upd_ne (ne_of_none this ng)]
    exact this
  · by_cases z : b = p
    · subst z
      exact absurd hm hb
    · rw [upd_ne z]
      exact S.gn b hb gb
  · have hne : a ≠ p := fun z => (S.ow a ha).2.1 (by rw [z]; exact n)
    rw [upd_ne hne]
    exact S1.ow a ha
theorem Sep.mut (S : Sep M H0 G0 G H O) {L : List Addr} (x : SameXs L H H') (hL : ∀ a ∈ L, a ∈ O) (hs : ∀ a ∈ L, H' a ≠ none) : Sep M H0 G0 G H' O := by
  have keep : ∀ a, H a ≠ none → H' a ≠ none := fun a h => by
    by_cases hb : a ∈ L
    · exact hs a hb
    · cases q : H a with
      | none => exact absurd q h
      | some o => exact some_ne (x a o q hb)
  refine ⟨fun b o e n => ?_, fun a ha => keep a (S.pm a ha), fun b o e => ?_, S.g0, S.gn, fun a ha => ⟨(S.ow a ha).1, keep a (S.ow a ha).2.1, (S.ow a ha).2.2⟩⟩
  · refine x b o (S.base b o e n) fun hb => ?_
    rcases (S.ow b (hL b hb)).2.2 with z | z
    · exact n z
    · rw [e] at z; cases z
  · refine x b o (S.sG b o e) fun hb => ?_
    have := (S.ow b (hL b hb)).1
    rw [e] at this
    cases this
theorem Sep.mut1 (S : Sep M H0 G0 G H O) (x : SameX m H H') (hm : m ∈ O) (h : H' m = some o) : Sep M H0 G0 G H' O :=
  S.mut (SameXs.of x) (all_cons hm all_nil) (all_cons (some_ne h) all_nil)
theorem Sep.sub (S : Sep M H0 G0 G H O) {O' : List Addr} (h : ∀ a ∈ O', a ∈ O) : Sep M H0 G0 G H O' := ⟨S.base, S.pm, S.sG, S.g0, S.gn, fun a ha => S.ow a (h a ha)⟩
/-- what was owned and is to stay as it is from now on -/
theorem Sep.freeze (S : Sep M H0 G0 G H O) {O' : List Addr} (hp : p ∈ O) (h : H p = some o) (hm : H0 p = none) (hO : ∀ a ∈ O', a ∈ O ∧ a ≠ p) : ∃ G', Same G G' ∧ G' p = some o ∧ Sep M H0 G0 G' H O' := by
  have ng := (S.ow p hp).1
  refine ⟨upd G p o, fun b u q => by rw [upd_ne (ne_of_none q ng)]; exact q, upd_same, S.base, S.pm, fun b u q => ?_, fun b u q => ?_, fun b hb gb => ?_, fun a ha => ?_⟩
  · by_cases z : b = p
    · subst z
      rw [upd_same] at q
      exact q ▸ h
    · rw [upd_ne z] at q
      exact S.sG b u q
  · have := S.g0 b u q
    rw [upd_ne (ne_of_none this ng)]
    exact this
  · by_cases z : b = p
    · subst z
      exact absurd hm hb
    · rw [upd_ne z]
      exact S.gn b hb gb
  · rw [upd_ne (hO a ha).2]
    exact S.ow a (hO a ha).1
/-- a callee that hands on data in a stable heap of its own -/
theorem Sep.step (S : Sep M H0 G0 G H O) {G' : Hp} (e : Same H H') (eG : Same G G') (sG : Same G' H') (hn : ∀ b, H b ≠ none → G b = none → G' b = none) : Sep M H0 G0 G' H' O := by
  have S1 := S.same e
  refine ⟨S1.base, S1.pm, sG, S.g0.trans eG, fun b hb gb => ?_, fun a ha => ⟨hn a (S.ow a ha).2.1 (S.ow a ha).1, (S1.ow a ha).2⟩⟩
  refine hn b (fun z => ?_) (S.gn b hb gb)
  exact hb (S.free z)
theorem Sep.hid (S : Sep M H0 G0 G H O) {L : List Addr} (h : ∀ a ∈ L, a ∈ O) : Same G (hideL L H) := fun b o e => by
  rw [hideL_out fun z => by
    have := (S.ow b (h b z)).1
    rw [e] at this
    cases this]
  exact S.sG b o e
end
end Vx

namespace Vx
open PySem PySem.Spec PyProof.Rows L2
/-! ### lists of plain things (f : V.int, V.bl, V.str) -/
section
variable {α : Type} {f : α → V} {H : Hp} {p : Addr}
theorem cat_map {xs ys : List α} (h : H p = some (.lst (xs.map f ++ ys.map f))) : H p = some (.lst ((xs ++ ys).map f)) := by
  rw [List.map_append]; exact h
theorem snoc_map {xs : List α} {y : α} (h : H p = some (.lst (xs.map f ++ [f y]))) : H p = some (.lst ((xs ++ [y]).map f)) := by
  rw [List.map_append]; exact h
def repL (xs : List α) (k : Int) : List α := (List.replicate k.toNat xs).flatten
theorem rep_map {xs : List α} {k : Int} (h : H p = some (.lst (List.replicate k.toNat (xs.map f)).flatten)) : H p = some (.lst ((repL xs k).map f)) := by
  rw [h]
  unfold repL
  rw [List.map_flatten, List.map_replicate]
def cutL (xs : List α) (lo hi : Option Int) : List α := (xs.drop (HT.sIx xs.length 0 lo)).take (HT.sIx xs.length xs.length hi - HT.sIx xs.length 0 lo)
theorem cut_map {xs : List α} {lo hi : Option Int} (h : H p = some (.lst (cutV (xs.map f) lo hi))) : H p = some (.lst ((cutL xs lo hi).map f)) := by
  rw [h]
  unfold cutV cutL
  rw [List.length_map, List.map_take, List.map_drop]
theorem cast_map {xs ys : List α} (h : H p = some (.lst (xs.map f))) (e : xs = ys) : H p = some (.lst (ys.map f)) := e ▸ h
theorem drop_map {xs : List α} (h : H p = some (.lst (xs.map f).dropLast)) : H p = some (.lst (xs.dropLast.map f)) := by
  rw [h, List.map_dropLast]
theorem ixN_some {n : Nat} {k : Int} (h : -(n : Int) ≤ k ∧ k < n) : ∃ j, ixN n k = some j ∧ j < n := by
  unfold ixN
  by_cases h0 : 0 ≤ k
  · exact ⟨k.toNat, by rw [if_pos h0, if_pos h.2], by omega⟩
  · exact ⟨(k + n).toNat, by rw [if_neg h0, if_pos h.1], by omega⟩
def itD [Inhabited α] (xs : List α) (k : Int) : α := (atI xs k).getD default
theorem atI_map [Inhabited α] {xs : List α} {k : Int} (h : -(xs.length : Int) ≤ k ∧ k < xs.length) : atI (xs.map f) k = some (f (itD xs k)) := by
  obtain ⟨j, e, hj⟩ := ixN_some h
  unfold itD atI
  rw [List.length_map, e]
  show (xs.map f)[j]? = some (f ((xs[j]?).getD default))
  rw [List.getElem?_map, List.getElem?_eq_getElem hj] <;> rfl
def setL (xs : List α) (k : Int) (y : α) : List α := xs.set ((ixN xs.length k).getD 0) y
theorem ixN_map {xs : List α} {k : Int} (h : -(xs.length : Int) ≤ k ∧ k < xs.length) : ixN (xs.map f).length k = some ((ixN xs.length k).getD 0) := by
  obtain ⟨j, e, hj⟩ := ixN_some h
  rw [List.length_map, e] <;> rfl
theorem set_map {xs : List α} {k : Int} {y : α} (h : H p = some (.lst ((xs.map f).set ((ixN xs.length k).getD 0) (f y)))) : H p = some (.lst ((setL xs k y).map f)) := by
  rw [h]
  unfold setL
  rw [List.map_set]
def lastD [Inhabited α] (xs : List α) : α := xs.getLastD default
theorem pop_map [Inhabited α] {xs : List α} (h : xs ≠ []) : (xs.map f)[(xs.map f).length - 1]? = some (f (lastD xs)) := by
  rw [← List.getLast?_eq_getElem?, List.getLast?_map]
  unfold lastD
  cases e : xs.getLast? with
  | none => exact absurd (List.getLast?_eq_none_iff.mp e) h
  | some y =>
    rw [List.getLastD_eq_getLast?, e] <;> rfl
end
/-! ### lists of data -/
section
variable {α β : Type} {f : α → PyData} {g : β → PyData} {G : Hp} {vs ws : List V} {xs ys : List α}
theorem app_map (a : RpAll G vs (xs.map f)) (b : RpAll G ws (ys.map f)) : RpAll G (vs ++ ws) ((xs ++ ys).map f) := by
  rw [List.map_append]; exact a.append b
theorem one_map {v : V} {y : α} (a : RpAll G vs (xs.map f)) (b : Rp G v (f y)) : RpAll G (vs ++ [v]) ((xs ++ [y]).map f) := by
  rw [List.map_append]; exact a.append (.one b)
theorem rep_all (k : Int) (a : RpAll G vs (xs.map f)) : RpAll G (List.replicate k.toNat vs).flatten ((repL xs k).map f) := by
  unfold repL
  rw [List.map_flatten, List.map_replicate]
  exact a.rep _
theorem cut_all (lo hi : Option Int) (a : RpAll G vs (xs.map f)) : RpAll G (cutV vs lo hi) ((cutL xs lo hi).map f) := by
  unfold cutV cutL
  rw [a.len, List.length_map, List.map_take, List.map_drop]
  exact (a.drop _).take _
theorem rp_cast {v : V} {d e : PyData} (r : Rp G v d) (h : d = e) : Rp G v e := h ▸ r
theorem comp_listD {i : Nat} {x : α} {y : β} {v : V} {h : α → β} (hi : xs[i]? = some x) (a : RpAll G vs (((xs.take i).map h).map g)) (r : Rp G v (g y)) (e : h x = y) : RpAll G (vs ++ [v]) (((xs.take (i + 1)).map h).map g) := by
  rw [take_succ_get hi, List.map_append, List.map_append]
  exact a.append (.one (e ▸ r))
theorem comp_rangeD {i : Nat} {y : β} {v : V} {h : Nat → β} (a : RpAll G vs (((List.range i).map h).map g)) (r : Rp G v (g y)) (e : h i = y) : RpAll G (vs ++ [v]) (((List.range (i + 1)).map h).map g) := by
  rw [List.range_succ, List.map_append, List.map_append]
  exact a.append (.one (e ▸ r))
theorem comp_doneD {n : Nat} {h : List α → List β} (hl : n = xs.length) (a : RpAll G vs ((h (xs.take n)).map g)) : RpAll G vs ((h xs).map g) := by
  rw [hl, List.take_length] at a
  exact a
theorem comp_listFD {i : Nat} {x : α} {y : β} {v : V} {h : α → β} {q : α → Bool} (hi : xs[i]? = some x) (hq : q x = true) (a : RpAll G vs ((((xs.take i).filter q).map h).map g)) (r : Rp G v (g y)) (e : h x = y) : RpAll G (vs ++ [v]) ((((xs.take (i + 1)).filter q).map h).map g) := by
  rw [take_succ_get hi, List.filter_append, List.filter_cons, if_pos hq, List.map_append, List.map_append]
  exact a.append (.one (e ▸ r))
theorem skip_listD {i : Nat} {x : α} {h : α → β} {q : α → Bool} (hi : xs[i]? = some x) (hq : q x = false) (a : RpAll G vs ((((xs.take i).filter q).map h).map g)) : RpAll G vs ((((xs.take (i + 1)).filter q).map h).map g) := by
  rw [take_succ_get hi, List.filter_append, List.filter_cons, if_neg (by rw [hq]; decide), List.filter_nil, List.append_nil]
  exact a
end
section
variable {α β : Type} {f : β → V} {H : Hp} {D : Addr} {xs : List α}
theorem compM_list {i : Nat} {x : α} {y : β} {h : α → β} (hi : xs[i]? = some x) (a : H D = some (.lst (((xs.take i).map h).map f ++ [f y]))) (e : h x = y) : H D = some (.lst (((xs.take (i + 1)).map h).map f)) := by
  rw [a, ← e, take_succ_get hi, List.map_append, List.map_append] <;> rfl
theorem compM_range {i : Nat} {y : β} {h : Nat → β} (a : H D = some (.lst (((List.range i).map h).map f ++ [f y]))) (e : h i = y) : H D = some (.lst (((List.range (i + 1)).map h).map f)) := by
  rw [a, ← e, List.range_succ, List.map_append, List.map_append] <;> rfl
theorem compM_done {n : Nat} {h : List α → List β} (hl : n = xs.length) (a : H D = some (.lst ((h (xs.take n)).map f))) : H D = some (.lst ((h xs).map f)) := by
  rw [hl, List.take_length] at a
  exact a
theorem compM_listF {i : Nat} {x : α} {y : β} {h : α → β} {q : α → Bool} (hi : xs[i]? = some x) (hq : q x = true) (a : H D = some (.lst ((((xs.take i).filter q).map h).map f ++ [f y]))) (e : h x = y) : H D = some (.lst ((((xs.take (i + 1)).filter q).map h).map f)) := by
  rw [a, ← e, take_succ_get hi, List.filter_append, List.filter_cons, if_pos hq, List.map_append, List.map_append] <;> rfl
theorem skipM_list {i : Nat} {x : α} {h : α → β} {q : α → Bool} (hi : xs[i]? = some x) (hq : q x = false) (a : H D = some (.lst ((((xs.take i).filter q).map h).map f))) : H D = some (.lst ((((xs.take (i + 1)).filter q).map h).map f)) := by
  rw [a, take_succ_get hi, List.filter_append, List.filter_cons, if_neg (by rw [hq]; decide), List.filter_nil, List.append_nil]
theorem compM_rangeF {i : Nat} {y : β} {h : Nat → β} {q : Nat → Bool} (hq : q i = true) (a : H D = some (.lst ((((List.range i).filter q).map h).map f ++ [f y]))) (e : h i = y) : H D = some (.lst ((((List.range (i + 1)).filter q).map h).map f)) := by
  rw [a, ← e, List.range_succ, List.filter_append, List.filter_cons, if_pos hq, List.map_append, List.map_append] <;> rfl
theorem skipM_range {i : Nat} {h : Nat → β} {q : Nat → Bool} (hq : q i = false) (a : H D = some (.lst ((((List.range i).filter q).map h).map f))) : H D = some (.lst ((((List.range (i + 1)).filter q).map h).map f)) := by
  rw [a, List.range_succ, List.filter_append, List.filter_cons, if_neg (by rw [hq]; decide), List.filter_nil, List.append_nil]
end
/-! ### more rules -/
section
variable {X : Cx} {K : PySem.W.Frag}
theorem ix_tupK (hK : X.K = K := by rfl) : IxR X (rIxT K) := hK ▸ ix_tup
def rLenLK (K : PySem.W.Frag) : List V → Hp → VK → Prop := fun xs H Q => ∃ (p : Addr) (vs : List V) (n : Nat), xs = [.ref p] ∧ SqL K H p vs ∧ vs.length = n ∧ Q (.int (n : Int)) H
theorem call_lenLK (hK : X.K = K := by rfl) : CallR X (.builtin "len") (rLenLK K) := by
  subst hK
  intro pins s σ H xs us Q I r h
  obtain ⟨p, vs, n, rfl, hs, hn, q⟩ := h
  exact call_len_seq pins s σ H _ us Q I r ⟨p, _, rfl, Or.inl hs, by rw [hn]; exact q⟩
def rListLK (K : PySem.W.Frag) : List V → Hp → VK → Prop := fun xs H Q => ∃ (p : Addr) (vs : List V), xs = [.ref p] ∧ SqL K H p vs ∧ ∀ l, H l = none → Q (.ref l) (upd H l (.lst vs))
theorem call_listLK (hK : X.K = K := by rfl) : CallR X (.type "list") (rListLK K) := by
  subst hK
  intro pins s σ H xs us Q I r h
  obtain ⟨p, vs, rfl, hs, q⟩ := h
  exact call_list_of pins s σ H _ us Q I r ⟨p, _, rfl, Or.inl hs, q⟩
theorem cr_anyK (hc : X.calm = true) (hK : X.K = K := by rfl) : CallR X (.builtin "any") (rAny K) := hK ▸ cr_any hc
theorem cr_allK (hc : X.calm = true) (hK : X.K = K := by rfl) : CallR X (.builtin "all") (rAll K) := hK ▸ cr_all hc
theorem pi_tupK {tg l : Expr} {tl : TE} (hl : PE X l tl) (hK : X.K = K := by rfl) : PI X tg l (iTup K tl) := hK ▸ pi_tup hl
theorem pip {op : Operator} {r : R2} (h : OpR X (inplaceOp op) r) : PIp X op r := fun pins s σ H x y v u Q I rx ry q => h pins s σ H x y v u Q I rx ry q
/-- an item at a place from 0 on, by itself (ahead of o[i] op= e) -/
def rIxP (K : PySem.W.Frag) : R2 := fun x y H Q => ∃ (p : Addr) (xs : List V) (k : Int) (v : V), x = .ref p ∧ y = .int k ∧ SqL K H p xs ∧ 0 ≤ k ∧ k < 2 ^ 62 ∧ atI xs k = some v ∧ Q v H
theorem pget_list (hK : X.K = K := by rfl) : PGet X (rIxP K) := by
  subst hK
  intro pins s σ H o i ov iv Q I ro ri h
  obtain ⟨p, xs, k, v, rfl, rfl, hq, h0, h62, ha, q⟩ := h
  cases ro
  obtain ⟨t, rfl⟩ := ri
  obtain ⟨its, r, pl, hz⟩ := I.list hq
  obtain ⟨j, h1, h2, h3, h4, h5⟩ := atI_get ha
  obtain ⟨w, ew, rw'⟩ := r.get h2
  have hj : k.toNat = j := by
    rw [seqIndex_of h0 h5] at h1
    exact Option.some.inj h1
  exact getItem_listL pl.isList h0 (by omega) (by rw [hj]; simpa using ew) ⟨v, H, I, rw', q⟩
theorem tru_map {α : Type} [DecidableEq α] {f : α → V} {xs : List α} : (!decide (xs = [])) = !(xs.map f).isEmpty := by
  cases xs <;> simp
end
end Vx

namespace Vx
open PySem PySem.Spec PyProof.Rows L2
/-! ### objects -/
section
variable {M : List Addr} {H0 G0 G H H' : Hp} {O : List Addr} {p m : Addr} {o : HO}
theorem gen_obj {x dx : Addr} {o1 o2 : HO} (nx : H x = none) (nd : H dx = none) (ne : dx ≠ x) (h : upd (upd H dx o1) x o2 = H') : Same H H' ∧ H' x = some o2 := by
  subst h
  exact ⟨fun b u e => by rw [upd_ne (ne_of_none e nx), upd_ne (ne_of_none e nd)]; exact e, upd_same⟩
theorem sameX_of {m : Addr} (x : SameXs [m] H H') : SameX m H H' := fun b o e n => x b o e (by simpa using n)
theorem g_ne {a b : Addr} (h : G a = some o) (S : Sep M H0 G0 G H O) (hb : b ∈ O) : a ≠ b := fun z => by
  have := (S.ow b hb).1
  rw [← z, h] at this
  cases this
/-- an object whose making has laid some lists -/
theorem Sep.mutnew (S : Sep M H0 G0 G H O) {L : List Addr} (x : SameXs L H H') (hL : ∀ a ∈ L, a ∈ O) (hs : ∀ a ∈ L, H' a ≠ none) (hn : H p = none) (hp : H' p ≠ none) (h0 : H0 p = none) : Sep M H0 G0 G H' (p :: O) := by
  have S1 := S.mut x hL hs
  refine ⟨S1.base, S1.pm, S1.sG, S1.g0, S1.gn, all_cons ⟨S.gfree hn, hp, .inr h0⟩ S1.ow⟩
theorem Sep.init (S : Sep M H0 G0 G H O) (x : SameX m H H') (hm : m ∈ O) (h : H' m = some o) (L : List Addr) (hL : ∀ a ∈ L, H a = none ∧ H' a ≠ none ∧ H0 a = none) : Sep M H0 G0 G H' (L ++ O) := by
  have S1 := S.mut1 x hm h
  refine ⟨S1.base, S1.pm, S1.sG, S1.g0, S1.gn, fun a ha => ?_⟩
  rcases List.mem_append.mp ha with z | z
  · obtain ⟨h1, h2, h3⟩ := hL a z
    exact ⟨S.gfree h1, h2, .inr h3⟩
  · exact S1.ow a z
end
section
variable {P : Program} {w : World} {K : PySem.W.Frag} {mg : Str → Option Value} {base : Heap}
structure MethIn (K : PySem.W.Frag) (C : Addr) (q m : Str) (st : Stmt) (ps : List Str) : Prop where
  ex : ∃ (f : Addr) (fd : FuncData), Fun K m q st f fd ∧ Meth K C m f ∧ Binds K fd ps []
structure PropIn (K : PySem.W.Frag) (C : Addr) (q m : Str) (st : Stmt) (ps : List Str) : Prop where
  ex : ∃ (r f : Addr) (fd : FuncData), Fun K m q st f fd ∧ PropOf K C m r f ∧ Binds K fd ps []
structure InitIn (K : PySem.W.Frag) (mg : Str → Option Value) (C : Addr) (cn q : Str) (st : Stmt) (ps : List Str) : Prop where
  ex : ∃ (f : Addr) (fd : FuncData), Fun K "__init__" q st f fd ∧ Mk K C f ∧ mg cn = some (.ref C) ∧ Binds K fd ps []
structure MetC (P : Program) (w : World) (K : PySem.W.Frag) (mg : Str → Option Value) (base : Heap) (k : Nat) (C : Addr) (m : Str) (sp : Sp) : Prop where
  ex : ∃ (f : Addr) (fd : FuncData) (ps : List Str), Cls K C ∧ Meth K C m f ∧ FnOk P w K mg base CX0 k f fd ps sp ∧ Binds K fd ps []
structure PropC (P : Program) (w : World) (K : PySem.W.Frag) (mg : Str → Option Value) (base : Heap) (k : Nat) (C : Addr) (m : Str) (sp : Sp) : Prop where
  ex : ∃ (q f : Addr) (fd : FuncData) (ps : List Str), Cls K C ∧ PropOf K C m q f ∧ FnOk P w K mg base CX0 k f fd ps sp ∧ Binds K fd ps []
structure MakC (P : Program) (w : World) (K : PySem.W.Frag) (mg : Str → Option Value) (base : Heap) (k : Nat) (cn : Str) (C : Addr) (sp : Sp) : Prop where
  ex : ∃ (f : Addr) (fd : FuncData) (ps : List Str), Mk K C f ∧ FnOk P w K mg base CX0 k f fd ps sp ∧ mg cn = some (.ref C) ∧ Binds K fd ps []
abbrev Body (P : Program) (w : World) (K : PySem.W.Frag) (mg : Str → Option Value) (base : Heap) (x : Str) (st : Stmt) (N : List Str) (k : Nat) (sp : Sp) : Prop :=
  ∀ (f : Addr) (cdv : Value) (A : Around) (outer : List Env) (s : Shared) (H : Hp) (vs : List V) (Q : VK) (E : XK), Room k (A.deeper (envOfC x (defScope st) s.heap.objs.size f cdv)) → sp vs H Q E →
    ∃ t, PSs (cxOf CX0 P w K mg base N x (defScope st) f cdv A outer s H E).nox (defBody st) t ∧ t { nx := fun _ H' => Q .non H', rt := Q } (start N vs) H
theorem MethIn.ok {C : Addr} {q m : Str} {st : Stmt} {N ps : List Str} {k : Nat} {sp : Sp} (D : MethIn K C q m st ps) (c : Cls K C) (S : FnScope N ps (defScope st)) (len : ∀ vs H Q E, sp vs H Q E → vs.length = ps.length)
    (hbody : Body P w K mg base q st N k sp) : MetC P w K mg base (k + 1) C m sp := by
  obtain ⟨f, fd, F, me, b⟩ := D.ex
  exact ⟨f, fd, ps, c, me, F.ok S len (fun cdv A outer s H vs Q E hr h => hbody f cdv A outer s H vs Q E hr h), b⟩
theorem PropIn.ok {C : Addr} {q m : Str} {st : Stmt} {N ps : List Str} {k : Nat} {sp : Sp} (D : PropIn K C q m st ps) (c : Cls K C) (S : FnScope N ps (defScope st)) (len : ∀ vs H Q E, sp vs H Q E → vs.length = ps.length)
    (hbody : Body P w K mg base q st N k sp) : PropC P w K mg base (k + 1) C m sp := by
  obtain ⟨r, f, fd, F, me, b⟩ := D.ex
  exact ⟨r, f, fd, ps, c, me, F.ok S len (fun cdv A outer s H vs Q E hr h => hbody f cdv A outer s H vs Q E hr h), b⟩
theorem InitIn.ok {C : Addr} {cn q : Str} {st : Stmt} {N ps : List Str} {k : Nat} {sp : Sp} (D : InitIn K mg C cn q st ps) (S : FnScope N ps (defScope st)) (len : ∀ vs H Q E, sp vs H Q E → vs.length = ps.length)
    (hbody : Body P w K mg base q st N k sp) : MakC P w K mg base (k + 1) cn C sp := by
  obtain ⟨f, fd, F, me, hm, b⟩ := D.ex
  exact ⟨f, fd, ps, me, F.ok S len (fun cdv A outer s H vs Q E hr h => hbody f cdv A outer s H vs Q E hr h), hm, b⟩
end
section
variable {X : Cx} {k j : Nat} {C : Addr} {x m : Str} {sp : Sp} {p pos apos : Pos} {e o : Expr} {es : List Expr} {ta : TE} {t : TA}
theorem vx_call0 (c : Cal X.prog X.w X.K X.mg X.base k x sp) (hr : Room j X.A) (hk : k ≤ j) (hg : Gl X x) (hdb : (x == ("__debug__" : Str)) = false := by decide) : PE X (.Call (.Name x p) [] [] pos) (tCall sp [] E0 tNil) := by
  obtain ⟨f, fd, ps, F, hm, kp, b⟩ := c.ex
  exact pe_call0 F (hr.mono hk) hg hm kp b .nil pass0 hdb
theorem vx_make (c : MakC X.prog X.w X.K X.mg X.base k x C sp) (hr : Room j X.A) (hk : k + 1 ≤ j) (hg : Gl X x) (ha : PA X (e :: es) t)
    (hdb : (x == ("__debug__" : Str)) = false := by decide) (he : starEach (e :: es) X.env = (false, eval e X.env) :: starEach es X.env := by rfl) (hpl : (backTo pos (starEach es X.env)).any (·.1) = false := by rfl) :
    PE X (.Call (.Name x p) (e :: es) [] pos) (tMake C sp [] E0 t) := by
  obtain ⟨f, fd, ps, M, F, hm, b⟩ := c.ex
  exact pe_make M F (hr.mono hk) hg hm b .nil pass0 ha hdb he hpl
theorem vx_make0 (c : MakC X.prog X.w X.K X.mg X.base k x C sp) (hr : Room j X.A) (hk : k + 1 ≤ j) (hg : Gl X x) (hdb : (x == ("__debug__" : Str)) = false := by decide) :
    PE X (.Call (.Name x p) [] [] pos) (tMake C sp [] E0 tNil) := by
  obtain ⟨f, fd, ps, M, F, hm, b⟩ := c.ex
  exact pe_make0 M F (hr.mono hk) hg hm b .nil pass0 hdb
theorem vx_meth {pl : Sem Bool} (c : MetC X.prog X.w X.K X.mg X.base k C m sp) (hr : Room j X.A) (hk : k ≤ j) (he : PE X o ta) (ha : PA X (e :: es) t)
    (hst : starEach (e :: es) X.env = (false, eval e X.env) :: starEach es X.env := by rfl) (hpl : (backTo pos (starEach es X.env)).any (·.1) = false := by rfl)
    (ht : eval (.Call (.Attribute o m apos) (e :: es) [] pos) X.env = (do
      let ov ← eval o X.env
      standAt apos.atName
      let (f, first) ← holding [ov] (getMethod ov m pl)
      callWith pos f first (backTo pos (starEach (e :: es) X.env)) (backToKw pos (keywordEach [] X.env))) := by rfl) :
    PE X (.Call (.Attribute o m apos) (e :: es) [] pos) (tMeth C m sp [] E0 ta t) := by
  obtain ⟨f, fd, ps, hc, hm, F, b⟩ := c.ex
  exact pe_meth he hc hm F (hr.mono hk) b .nil pass0 ha hst hpl ht
theorem vx_meth0 {pl : Sem Bool} (c : MetC X.prog X.w X.K X.mg X.base k C m sp) (hr : Room j X.A) (hk : k ≤ j) (he : PE X o ta)
    (ht : eval (.Call (.Attribute o m apos) [] [] pos) X.env = (do
      let ov ← eval o X.env
      standAt apos.atName
      let (f, first) ← holding [ov] (getMethod ov m pl)
      callWith pos f first (backTo pos (starEach [] X.env)) (backToKw pos (keywordEach [] X.env))) := by rfl) :
    PE X (.Call (.Attribute o m apos) [] [] pos) (tMeth C m sp [] E0 ta tNil) := by
  obtain ⟨f, fd, ps, hc, hm, F, b⟩ := c.ex
  exact pe_meth0 he hc hm F (hr.mono hk) b .nil pass0 ht
theorem vx_prop (c : PropC X.prog X.w X.K X.mg X.base k C m sp) (hr : Room j X.A) (hk : k + 1 ≤ j) (he : PE X o ta) (hab : attributeBase o m X.env (eval o X.env) = eval o X.env) : PE X (.Attribute o m pos) (tProp C sp [] E0 ta) := by
  obtain ⟨q, f, fd, ps, hc, hp, F, b⟩ := c.ex
  exact pe_prop he hc hp F (hr.mono hk) b .nil pass0 hab
end
theorem iteBNT {b : Bool} {A B : Prop} (h : b = false) (k : A) : if (!b) = true then A else B := by rw [h]; exact iteT k
theorem iteNN {b : Bool} {A B : Prop} (h : if b = true then A else B) : if (!!b) = true then A else B := by rw [Bool.not_not]; exact h
theorem iteBNF {b : Bool} {A B : Prop} (h : b = true) (k : B) : if (!b) = true then A else B := by rw [h]; exact iteF k
theorem shl_side {i j : Int} (h0 : 0 ≤ j) (h1 : j ≤ 4096) (h2 : -(2 ^ 4096) < i) (h3 : i < 2 ^ 4096) : CShl i j := by
  obtain ⟨k, rfl⟩ := Int.eq_ofNat_of_zero_le h0
  exact shl_ok (n := 4096) (by omega) (by omega)
end Vx

namespace Vx
open PySem PySem.Spec PyProof.Rows L2
section
variable {X : Cx} {K : PySem.W.Frag}
theorem fldK {e : Expr} {f : Str} {pos : Pos} {ta : TE} (he : PE X e ta) (hb : attributeBase e f X.env (eval e X.env) = eval e X.env := by rfl) (hK : X.K = K := by rfl) : PE X (.Attribute e f pos) (tFld K ta f) := hK ▸ pe_fld he hb
theorem pg_tupK {es : List Expr} {k : Nat} {t : TGs} {n : Nat} {pos : Pos} (h : PGs X es t) (hc : X.calm = true := by rfl)
    (hn : (assignEach es X.env).length = n := by rfl) (hst : (assignEach es X.env).findIdx? (·.1) = none := by rfl) (hK : X.K = K := by rfl) : PG X (.Tuple es k pos) (gTup K n t) := hK ▸ pg_tup hc h hn hst
end
end Vx

namespace Vx
open PySem PySem.Spec PyProof.Rows L2
section
variable {α β : Type} {f : α → PyData} {g : β → PyData} {fv : α → V} {gv : β → V} {G : Hp} {vs ws : List V} {xs : List α} {ys : List β}
theorem big1 {n : Nat} (h : n ≤ 1000000) : n ≤ sizeLine := smallE h
theorem cat_len (a : RpAll G vs (xs.map f)) (b : RpAll G ws (ys.map g)) (h : xs.length + ys.length ≤ 1000000) : vs.length + ws.length ≤ sizeLine := by
  rw [a.len, b.len, List.length_map, List.length_map]; exact smallE h
theorem cat_lenM (h : xs.length + ys.length ≤ 1000000) : (xs.map fv).length + (ys.map gv).length ≤ sizeLine := by
  rw [List.length_map, List.length_map]; exact smallE h
theorem rep_len {k : Nat} (a : RpAll G vs (xs.map f)) (h : xs.length * k ≤ 1000000) : vs.length * k ≤ sizeLine := by
  rw [a.len, List.length_map]; exact smallE h
theorem rep_lenM {k : Nat} (h : xs.length * k ≤ 1000000) : (xs.map fv).length * k ≤ sizeLine := by
  rw [List.length_map]; exact smallE h
theorem app_len (a : RpAll G vs (xs.map f)) (h : xs.length ≤ 1000000) : vs.length < sizeLine := by
  rw [a.len, List.length_map]; exact small h
theorem app_lenM (h : xs.length ≤ 1000000) : (xs.map fv).length < sizeLine := by
  rw [List.length_map]; exact small h
theorem cutL_len {α : Type} (xs : List α) (lo hi : Option Int) : (cutL xs lo hi).length ≤ xs.length := by
  unfold cutL
  rw [List.length_take, List.length_drop]
  omega
theorem repL_len {α : Type} (xs : List α) (k : Int) : (repL xs k).length = k.toNat * xs.length := by
  unfold repL
  simp
end
end Vx
/-! # promises of defs that know that nothing is being shown (so that repr may be called) -/
namespace Vx
open PySem PySem.Spec PyProof.Rows L2
structure RoomG (k : Nat) (A : Around) : Prop extends Room k A where
  gd : A.guards = some []
theorem RoomG.low {j k : Nat} {A : Around} (r : RoomG k A) (h : j ≤ k) : RoomG j A := ⟨r.toRoom.mono h, r.gd⟩
theorem RoomG.one {k : Nat} {A : Around} (r : RoomG (k + 1) A) : RoomG k A.in1 := ⟨r.toRoom.in1, r.gd⟩
theorem make_gd {A : Around} (C : Addr) (us : List Value) (kw : List (Str × Value)) (h : A.guards = some []) : (A.under (.builtin "type.__call__" ⟨.ref C :: us, kw⟩)).guards = some [] := by
  obtain ⟨hd, d, fr, gs, u⟩ := A
  subst h
  simp [Around.under, Code.guards, Code.isGuard, guardIds, pushGuards]
theorem RoomG.made {k : Nat} {A : Around} (r : RoomG (k + 1) A) (C : Addr) (us : List Value) (kw : List (Str × Value)) : RoomG k (A.under (.builtin "type.__call__" ⟨.ref C :: us, kw⟩)) := ⟨r.toRoom.make C us kw, make_gd C us kw r.gd⟩
structure FnG (P : Program) (w : World) (K : PySem.W.Frag) (mg : Str → Option Value) (base : Heap) (cx : CXT) (k : Nat) (f : Addr) (fd : FuncData) (ps : List Str) (sp : Sp) : Prop where
  len : ∀ vs H Q E, sp vs H Q E → vs.length = ps.length
  run : ∀ (A : Around) (outer : List Env) (s : Shared) (H : Hp) (args : Args) (us : List Value) (vs : List V) (Q : VK) (E : XK), RoomG k A → Env0 P w K mg base A outer s H → BindsTo s fd args (ps.zip us) → Vals vs us → sp vs H Q E → codeAny (model P w) A (.call (.ref f) args) (CR cx outer P w H s Q E) s
section
variable {P : Program} {w : World} {K : PySem.W.Frag} {mg : Str → Option Value} {base : Heap} {cx : CXT} {j k : Nat} {f : Addr} {fd : FuncData} {ps : List Str} {sp sp' : Sp}
theorem FnG.imp (F : FnG P w K mg base cx k f fd ps sp) (h : ∀ vs H Q E, sp' vs H Q E → sp vs H Q E) : FnG P w K mg base cx k f fd ps sp' := ⟨fun vs H Q E q => F.len vs H Q E (h vs H Q E q), fun A o s H a us vs Q E r e b v q => F.run A o s H a us vs Q E r e b v (h vs H Q E q)⟩
/-- the body's promise is the def's -/
theorem FnG.body {x qual : Str} {params : Arguments} {body : List Stmt} {scope : Scope} {dvs : List V} {kws : List (Str × V)} {N : List Str} (F : FunD K x qual params body scope dvs kws f fd) (S : FnScope N ps scope) (len : ∀ vs H Q E, sp vs H Q E → vs.length = ps.length)
    (hb : ∀ (cdv : Value) (A : Around) (outer : List Env) (s : Shared) (H : Hp) (vs : List V) (Q : VK) (E : XK), RoomG k (A.deeper (envOfC qual scope s.heap.objs.size f cdv)) → sp vs H Q E →
      ∃ t, PSs (cxOf cx P w K mg base N qual scope f cdv A outer s H E) body t ∧ t { nx := fun _ H' => Q .non H', rt := Q } (start N vs) H) : FnG P w K mg base cx (k + 1) f fd ps sp := by
  obtain ⟨oc, od, dV, kV, doc, pm, an, cdv, ct, osl, rfl, lk, code, _, _⟩ := F.ex
  constructor
  · exact len
  · intro A outer s H args us vs Q E room env binds vals prom
    have nvs := len vs H Q E prom
    have kin : K.In s.heap := env.mod.kin.keeps fun b o q => (env.bs b o q).1
    have nolim : s.heap.NoLimit := env.mod.nolimit.keeps fun b o q => (env.bs b o q).1
    have kinds : ∀ q ∈ ps.zip us, scope.names.lookup q.1 = some .local ∨ (scope.names.lookup q.1 = some .cell ∧ ((cellsFrom (s.heap.objs.size + 1) scope.names []).lookup q.1).isSome = true) := by
      rintro ⟨n, v⟩ hq
      cases S.par n (List.of_mem_zip hq).1 with
      | inl z => exact .inl z
      | inr z => exact .inr ⟨z, PySem.W.cellsFrom_some _ _ _ (.inl z)⟩
    refine codeAny_call_function room.toRoom.depth (kin _ _ lk) rfl S.co S.gen rfl (PySem.W.codeRec_of kin code) (binds _ _ _ _ ?_)
    refine wpAny_newFunctionEnv_cells S.kind kinds ?_
    rintro _ rfl s1 made
    refine ⟨nolim.keeps made.toInCall.keep, codeAny_func ?_⟩
    obtain ⟨t, pss, start_⟩ := hb cdv A outer s H vs Q E ⟨room.toRoom.deeper _, room.gd⟩ prom
    have inv := inv_start (CX := cx) (E := E) S room.hd env nvs vals made
    have close : ∀ {τ : L2.St} {H2 : Hp} {v : V} {u : Value} {s2 : Shared}, Inv (cxOf cx P w K mg base N qual scope f cdv A outer s H E) [] τ H2 s2 → RelV v u → Q v H2 → CE outer P w H s Q u s2 := fun inv2 rel q => ⟨_, _, inv2.os, inv2.bare, inv2.base, inv2.hok, rel, q⟩
    refine wpAny_mono (pss.run [] s1 (start N vs) H _ inv start_) ?_ fun _ _ z => z
    intro flow s2 out
    cases flow with
    | next =>
      obtain ⟨τ, H2, inv2, q⟩ := out
      exact close (v := .non) (u := .none) inv2 rfl q
    | ret u =>
      obtain ⟨v, τ, H2, inv2, rel, q⟩ := out
      exact close inv2 rel q
    | brk =>
      obtain ⟨_, _, _, q⟩ := out
      exact q.elim
    | cont =>
      obtain ⟨_, _, _, q⟩ := out
      exact q.elim
/-- the same of a body that nothing leaves -/
theorem FnG.bodyN {x qual : Str} {params : Arguments} {body : List Stmt} {scope : Scope} {dvs : List V} {kws : List (Str × V)} {N : List Str} (F : FunD K x qual params body scope dvs kws f fd) (S : FnScope N ps scope) (len : ∀ vs H Q E, sp vs H Q E → vs.length = ps.length)
    (hb : ∀ (cdv : Value) (A : Around) (outer : List Env) (s : Shared) (H : Hp) (vs : List V) (Q : VK) (E : XK), RoomG k (A.deeper (envOfC qual scope s.heap.objs.size f cdv)) → sp vs H Q E →
      ∃ t, PSs (cxOf CX0 P w K mg base N qual scope f cdv A outer s H E).nox body t ∧ t { nx := fun _ H' => Q .non H', rt := Q } (start N vs) H) : FnG P w K mg base CX0 (k + 1) f fd ps sp :=
  FnG.body F S len fun cdv A outer s H vs Q E r p => by
    obtain ⟨t, h, q⟩ := hb cdv A outer s H vs Q E r p
    exact ⟨t, h.nox, q⟩
end
/-- where a law's call begins: an abstract heap that tells the script at most -/
theorem law_start {P : Program} {w : World} {K : PySem.W.Frag} {mg mb : Str → Option Value} {a : Addr} {s : Shared} {vs : List Value} {ns : List Int} (kin : K.In s.heap) (top : s.heap.Ns mainGlobals mg) (blt : s.heap.Ns builtinsNs mb) (boot : ∀ y : Str, y ≠ "__name__" → mb y = bootBuiltins y)
    (lim : s.heap.NoLimit) (gens : s.gens = #[]) (script : s.heap.get? a = some { cls := .type "list", data := .seq vs.toArray }) (whole : IntsAre vs ns) (short : ns.length ≤ sizeLine) :
    ∃ (H : Hp) (base : Heap), SqL K H a (ns.map V.int) ∧ K.In base ∧ base.Ns mainGlobals mg ∧ Env0 P w K mg base callerA [] s H ∧
      ∀ (Z : V → Prop) (u : Value) (s2 : Shared), CE [] P w H s (fun v _ => Z v) u s2 → (∃ v, RelV v u ∧ Z v) ∧ OldK s.heap s2.heap ∧ s2.os = s.os ∧ AllBare s2.gens := by
  have rel := vals_ints whole
  have lenV := whole.length
  -- any H that tells no more than the script, and that only where the written part does not hold it, will do
  have fits : ∀ H : Hp, (∀ b, H b = none ∨ ∃ o xs, H b = some (.frz o (.lst xs))) → SqL K H a (ns.map V.int) → HOk P w H s.heap → (∀ b, b ≠ a → H b = none) → (∀ o, K.lookup a = some o → H a = none) →
      ∃ (H : Hp) (base : Heap), SqL K H a (ns.map V.int) ∧ K.In base ∧ base.Ns mainGlobals mg ∧ Env0 P w K mg base callerA [] s H ∧
        ∀ (Z : V → Prop) (u : Value) (s2 : Shared), CE [] P w H s (fun v _ => Z v) u s2 → (∃ v, RelV v u ∧ Z v) ∧ OldK s.heap s2.heap ∧ s2.os = s.os ∧ AllBare s2.gens := by
    intro H only seq ok else_ apart
    have dictFree : ∀ (b : Addr) (o : Obj) (es : Array DictEntry) (n : Nat), s.heap.get? b = some o → o.data = .dict es n → H b = none := by
      intro b o es n e d
      by_cases z : b = a
      · subst z
        rw [script] at e
        injection e with e
        subst e
        cases d
      · exact else_ b z
    have nsOf : ∀ {b : Addr} {m : Str → Option Value}, s.heap.Ns b m → (hidT s.heap H).Ns b m := by
      rintro b m ⟨o, es, n, e, d, r⟩
      exact ⟨o, es, n, hidT_get e (dictFree b o es n e d), d, r⟩
    have kinB : K.In (hidT s.heap H) := by
      intro b o e
      refine hidT_get (kin b o e) ?_
      by_cases z : b = a
      · subst z
        exact apart o e
      · exact else_ b z
    obtain ⟨mc, lim1, lim2⟩ := lim
    refine ⟨H, hidT s.heap H, seq, kinB, nsOf top, ⟨rfl, ⟨kinB, nsOf top, ⟨mb, nsOf blt, boot⟩, mc, nsOf lim1, lim2⟩, fun b o e => of_hidT e, Nat.le_of_eq (hidT_size _ _), trivial, fun b hb => (nomatch (show b ∈ ([] : List Addr) from hb)), ok, .of_eq gens⟩, ?_⟩
    rintro Z u s2 ⟨v, H2, os, bare, un, ok2, r, z⟩
    refine ⟨⟨v, r, z⟩, OldK.of_keep fun b o e => ?_, os, bare⟩
    rcases only b with n | ⟨o1, xs, n⟩
    · exact un.keep b o e n (fun y => nomatch (show b ∈ ([] : List Addr) from y)) (fun y => nomatch y)
    · obtain ⟨e1, _⟩ := ok b _ n
      obtain ⟨e2, _⟩ := ok2 b _ (un.frzs b o1 _ n)
      rw [e] at e1
      injection e1 with e1
      subst e1
      exact e2
  cases kl : K.lookup a with
  | some o =>
    have e := kin a o kl
    rw [script] at e
    injection e with e
    subst e
    exact fits (fun _ => none) (fun _ => .inl rfl) (.inr ⟨_, vs.toArray, _, kl, rfl, rfl, rfl, by rw [List.size_toArray, lenV]; exact short, by simpa using rel⟩) (fun _ _ z => nomatch z) (fun _ _ => rfl) fun _ _ => rfl
  | none =>
    refine fits (fun b => if b = a then some (.frz { cls := .type "list", data := .seq vs.toArray } (.lst (ns.map V.int))) else none) ?_ (.inl (.inr ⟨_, if_pos rfl⟩)) ?_ (fun b n => if_neg n) fun o z => ?_
    · intro b
      by_cases z : b = a
      · exact .inr ⟨_, _, if_pos z⟩
      · exact .inl (if_neg z)
    · intro b u q
      by_cases z : b = a
      · subst z
        have q := (if_pos rfl).symm.trans q
        injection q with q
        subst q
        exact ⟨script, by rw [List.length_map]; exact short, vs, _, rel, script⟩
      · have q := (if_neg z).symm.trans q
        cases q
    · rw [kl] at z
      cases z
/-- the goal that the head leaves, from the law's promise; the script's numbers have at most 2 ^ 20 bits -/
theorem walkG {l : PySem.W.OpenLaw} {n k : Nat} {q : Program} {loose : List Str} {XP : (Str → Option Value) → Heap → Prop} {YP : World → Heap → Prop} {d : DefRec} {K : Params → PySem.W.Frag} {x : Str} (hn : l.most = some n) (hn2 : n ≤ sizeLine) (hdf : d.params.defaults = []) (room : Room k callerA)
    (hY : ∀ (w : World) (h : Heap), YP w h → (K w.params).In h)
    (F : ∀ (w : World) (mg : Str → Option Value) (fa : Addr) (h : Heap), (K w.params).In h → h.Ns mainGlobals mg → mg d.name = some (.ref fa) →
      ∃ fd : FuncData, (∀ (s : Shared) (u : Value), BindsTo s fd ⟨[u], []⟩ [(x, u)]) ∧ ∀ base : Heap, (K w.params).In base → base.Ns mainGlobals mg → FnG l.prog w (K w.params) mg base CX0 k fa fd [x] (fun vs H Q _ => ∃ (a : Addr) (ns : List Int), vs = [.ref a] ∧ SqL (K w.params) H a (ns.map V.int) ∧ ns.length ≤ n ∧ ∀ H', Q (.bl true) H')) :
    PySem.W.WalkO q loose XP YP l.row.toRowW d [] (fun f vs => PySem.call f vs) := by
  refine Att.attach_call hn hdf ?_
  intro w s₀ s₁ mg mb fa o pm cd doc a vs ns G Y _ _ _ hmg script whole short gens
  have kin := hY w _ Y
  obtain ⟨fd, bind, prom⟩ := F w mg fa _ kin G.T.g hmg
  obtain ⟨H, base, seq, kinB, nsB, env, fin⟩ := law_start (P := l.prog) (w := w) kin G.T.g G.T.b G.T.builtins G.T.nolimit gens script whole (Nat.le_trans short hn2)
  refine codeAny_mono ((prom base kinB nsB).run callerA [] s₁ H ⟨[.ref a], []⟩ [.ref a] [.ref a] (fun v _ => v = .bl true) (fun _ _ _ => False) ⟨room, rfl⟩ env (bind s₁ (.ref a)) (.cons rfl .nil) ⟨a, ns, rfl, seq, short, fun _ => rfl⟩) ?_
  intro r s2 out
  cases r with
  | error e => exact out.elim
  | ok flow =>
    cases flow with
    | ret u =>
      obtain ⟨⟨v, rv, z⟩, h1, h2, h3⟩ := fin (fun v => v = .bl true) u s2 out
      subst z
      obtain rfl : u = Value.bool true := rv
      exact ⟨rfl, h1, h2, h3⟩
    | next => exact out.elim
    | brk => exact out.elim
    | cont => exact out.elim
end Vx
/-! # third part: what a def computes, as a plain function with refusals -/
namespace Vx
open PySem PySem.Spec PyProof.Rows L2
inductive Rx (α : Type) where
  | ok (a : α)
  | er (e : Nat)
  | bad
def Rx.bind {α β : Type} (m : Rx α) (f : α → Rx β) : Rx β :=
  match m with
  | .ok a => f a
  | .er e => .er e
  | .bad => .bad
/-- what is wanted of an outcome -/
@[irreducible] def cW {α : Type} (m : Rx α) (K : α → Prop) (E : Nat → Prop) : Prop :=
  match m with
  | .ok a => K a
  | .er e => E e
  | .bad => False
def grd {α : Type} (p : Prop) [Decidable p] (m : Rx α) : Rx α := if p then m else .bad
/-- within a comprehension nothing may be raised -/
def noEr {α : Type} (m : Rx α) : Rx α :=
  match m with
  | .ok a => .ok a
  | _ => .bad
/-- what the clause does not name may not come -/
def tryR {α β : Type} (m : Rx α) (cs : List Nat) (f : α → Rx β) (h : Nat → Rx β) : Rx β :=
  match m with
  | .ok a => f a
  | .er e => if e ∈ cs then h e else .bad
  | .bad => .bad
def bnd {α β : Type} (a : α) (f : α → Rx β) : Rx β := f a
inductive Lp (σ ρ : Type) where
  | go (s : σ)
  | bk (s : σ)
  | rt (r : ρ)
def Lp.aft {σ ρ τ : Type} (l : Lp σ ρ) (kr : ρ → Rx τ) (k : σ → Rx τ) : Rx τ :=
  match l with
  | .go s => k s
  | .bk s => k s
  | .rt r => kr r
def forS {σ α : Type} : List α → σ → (σ → α → Rx σ) → Rx σ
  | [], s, _ => .ok s
  | x :: r, s, f => (f s x).bind fun s' => forS r s' f
def forR {σ α ρ : Type} : List α → σ → (σ → α → Rx (Lp σ ρ)) → Rx (Lp σ ρ)
  | [], s, _ => .ok (.go s)
  | x :: r, s, f => (f s x).bind fun l =>
    match l with
    | .go s' => forR r s' f
    | .bk s' => .ok (.go s')
    | .rt v => .ok (.rt v)
def whileR {σ ρ : Type} : Nat → σ → (σ → Rx (Lp σ ρ)) → Rx (Lp σ ρ)
  | 0, _, _ => .bad
  | n + 1, s, f => (f s).bind fun l =>
    match l with
    | .go s' => whileR n s' f
    | .bk s' => .ok (.go s')
    | .rt v => .ok (.rt v)
def mapA {α β : Type} : List α → List β → (α → Rx β) → Rx (List β)
  | [], acc, _ => .ok acc
  | x :: r, acc, f => grd (acc.length ≤ 1000000) ((f x).bind fun y => mapA r (acc ++ [y]) f)
def mapF {α β : Type} : List α → List β → (α → Rx (Option β)) → Rx (List β)
  | [], acc, _ => .ok acc
  | x :: r, acc, f => grd (acc.length ≤ 1000000) ((f x).bind fun y =>
    match y with
    | some z => mapF r (acc ++ [z]) f
    | none => mapF r acc f)
section
variable {α β γ σ ρ τ : Type} {K : α → Prop} {E : Nat → Prop}
theorem cW_ok {a : α} (h : cW (.ok a) K E) : K a := by
  unfold cW at h
  exact h
theorem cW_er {e : Nat} (h : cW (.er e : Rx α) K E) : E e := by
  unfold cW at h
  exact h
theorem cW_bad {C : Prop} (h : cW (.bad : Rx α) K E) : C := by
  unfold cW at h
  exact h.elim
theorem cW_mk {a : α} (h : K a) : cW (.ok a) K E := by
  unfold cW
  exact h
theorem cW_mkE {e : Nat} (h : E e) : cW (.er e : Rx α) K E := by
  unfold cW
  exact h
theorem cW_gen {m : Rx α} (h : cW m K E) : ∃ (K' : α → Prop) (E' : Nat → Prop), (∀ v, K' v → K v) ∧ (∀ e, E' e → E e) ∧ cW m K' E' := ⟨K, E, fun _ x => x, fun _ x => x, h⟩
theorem cW_grd {p : Prop} {dp : Decidable p} {m : Rx α} (h : cW (grd p m) K E) : p ∧ cW m K E := by
  unfold grd at h
  split at h
  · exact ⟨‹p›, h⟩
  · exact cW_bad h
theorem cW_pos {p : Prop} {dp : Decidable p} {a b : Rx α} (c : p) (h : cW (if p then a else b) K E) : cW a K E := by rwa [if_pos c] at h
theorem cW_neg {p : Prop} {dp : Decidable p} {a b : Rx α} (c : ¬ p) (h : cW (if p then a else b) K E) : cW b K E := by rwa [if_neg c] at h
theorem cW_call {m : Rx β} {f : β → Rx α} {K2 : β → Prop} {E2 : Nat → Prop} (h : cW (m.bind f) K E) (ho : ∀ v, cW (f v) K E → K2 v) (he : ∀ e, E e → E2 e) : cW m K2 E2 := by
  cases m with
  | ok a => exact cW_mk (ho a h)
  | er e => exact cW_mkE (he e (cW_er (α := α) h))
  | bad => exact cW_bad (α := α) h
theorem cW_push {m : Rx β} {f : β → Rx α} (h : cW (m.bind f) K E) : ∃ K2 : β → Prop, (∀ v, K2 v → cW (f v) K E) ∧ cW m K2 E := ⟨fun v => cW (f v) K E, fun _ x => x, cW_call h (fun _ x => x) fun _ x => x⟩
theorem cW_name {m : Rx α} (h : cW m K E) : ∃ K' : α → Prop, (∀ v, K' v → K v) ∧ cW m K' E := ⟨K, fun _ x => x, h⟩
theorem cW_noEr {m : Rx α} (h : cW (noEr m) K E) : cW m K (fun _ => False) := by
  cases m with
  | ok a => exact cW_mk (cW_ok (α := α) h)
  | er e => exact cW_bad (α := α) h
  | bad => exact cW_bad (α := α) h
theorem cW_try {m : Rx β} {cs : List Nat} {f : β → Rx α} {g : Nat → Rx α} {K2 : β → Prop} {E2 : Nat → Prop} (h : cW (tryR m cs f g) K E) (ho : ∀ v, cW (f v) K E → K2 v) (hc : ∀ e, e ∈ cs → cW (g e) K E → E2 e) : cW m K2 E2 := by
  cases m with
  | ok a => exact cW_mk (ho a h)
  | er e =>
    have h2 : cW (if e ∈ cs then g e else .bad) K E := h
    by_cases q : e ∈ cs
    · exact cW_mkE (hc e q (cW_pos q h2))
    · exact cW_bad (cW_neg q h2)
  | bad => exact cW_bad (α := α) h
theorem cW_bnd {a : β} {f : β → Rx α} (h : cW (bnd a f) K E) : cW (f a) K E := h
theorem cW_negB {b : Bool} {x y : Rx α} (c : b = false) (h : cW (if b = true then x else y) K E) : cW y K E := cW_neg (by rw [c]; decide) h
theorem cW_forS {xs : List β} {i : Nat} {x : β} {s : α} {f : α → β → Rx α} (hx : xs[i]? = some x) (h : cW (forS (xs.drop i) s f) K E) : cW (f s x) (fun s' => cW (forS (xs.drop (i + 1)) s' f) K E) E := by
  rw [List.drop_eq_getElem?_toList_append, hx] at h
  exact cW_call h (fun _ z => z) fun _ z => z
theorem cW_forS0 {xs : List β} {n : Nat} {s : α} {f : α → β → Rx α} (hn : n = xs.length) (h : cW (forS (xs.drop n) s f) K E) : K s := by
  subst hn
  rw [List.drop_length] at h
  exact cW_ok h
theorem cW_forR {K : Lp σ ρ → Prop} {xs : List β} {i : Nat} {x : β} {s : σ} {f : σ → β → Rx (Lp σ ρ)} (hx : xs[i]? = some x) (h : cW (forR (xs.drop i) s f) K E) :
    cW (f s x) (fun l => match l with | .go s' => cW (forR (xs.drop (i + 1)) s' f) K E | .bk s' => K (.go s') | .rt v => K (.rt v)) E := by
  rw [List.drop_eq_getElem?_toList_append, hx] at h
  refine cW_call h (fun l z => ?_) fun _ z => z
  cases l with
  | go s' => exact z
  | bk s' => exact cW_ok (K := K) (a := .go s') z
  | rt v => exact cW_ok (K := K) (a := .rt v) z
theorem cW_forR0 {K : Lp σ ρ → Prop} {xs : List β} {n : Nat} {s : σ} {f : σ → β → Rx (Lp σ ρ)} (hn : n = xs.length) (h : cW (forR (xs.drop n) s f) K E) : K (.go s) := by
  subst hn
  rw [List.drop_length] at h
  exact cW_ok h
theorem cW_whileR {K : Lp σ ρ → Prop} {m : Nat} {s : σ} {f : σ → Rx (Lp σ ρ)} (h : cW (whileR m s f) K E) :
    ∃ n, m = n + 1 ∧ cW (f s) (fun l => match l with | .go s' => cW (whileR n s' f) K E | .bk s' => K (.go s') | .rt v => K (.rt v)) E := by
  cases m with
  | zero => exact cW_bad h
  | succ n =>
    refine ⟨n, rfl, cW_call h (fun l z => ?_) fun _ z => z⟩
    cases l with
    | go s' => exact z
    | bk s' => exact cW_ok (K := K) (a := .go s') z
    | rt v => exact cW_ok (K := K) (a := .rt v) z
theorem cW_mapA {K : List α → Prop} {xs : List β} {acc : List α} {i : Nat} {x : β} {f : β → Rx α} (hx : xs[i]? = some x) (h : cW (mapA (xs.drop i) acc f) K E) :
    acc.length ≤ 1000000 ∧ cW (f x) (fun y => cW (mapA (xs.drop (i + 1)) (acc ++ [y]) f) K E) E := by
  rw [List.drop_eq_getElem?_toList_append, hx] at h
  obtain ⟨z, h⟩ := cW_grd h
  exact ⟨z, cW_call h (fun _ z => z) fun _ z => z⟩
theorem cW_mapA0 {K : List α → Prop} {xs : List β} {acc : List α} {n : Nat} {f : β → Rx α} (hn : n = xs.length) (h : cW (mapA (xs.drop n) acc f) K E) : K acc := by
  subst hn
  rw [List.drop_length] at h
  exact cW_ok h
theorem cW_mapF {K : List α → Prop} {xs : List β} {acc : List α} {i : Nat} {x : β} {f : β → Rx (Option α)} (hx : xs[i]? = some x) (h : cW (mapF (xs.drop i) acc f) K E) :
    acc.length ≤ 1000000 ∧ cW (f x) (fun y => match y with | some z => cW (mapF (xs.drop (i + 1)) (acc ++ [z]) f) K E | none => cW (mapF (xs.drop (i + 1)) acc f) K E) E := by
  rw [List.drop_eq_getElem?_toList_append, hx] at h
  obtain ⟨z, h⟩ := cW_grd h
  refine ⟨z, cW_call h (fun y z => ?_) fun _ z => z⟩
  cases y with
  | none => exact z
  | some w => exact z
theorem cW_mapF0 {K : List α → Prop} {xs : List β} {acc : List α} {n : Nat} {f : β → Rx (Option α)} (hn : n = xs.length) (h : cW (mapF (xs.drop n) acc f) K E) : K acc := by
  subst hn
  rw [List.drop_length] at h
  exact cW_ok h
end
/-- the numbers of a range -/
def rng (lo : Int) (n : Nat) : List Int := (List.range n).map fun (j : Nat) => lo + (j : Int)
theorem rng_get {lo : Int} {n i : Nat} (h : i < n) : (rng lo n)[i]? = some (lo + (i : Int)) := by
  unfold rng
  rw [List.getElem?_map, List.getElem?_range h] <;> rfl
theorem rng_len (lo : Int) (n : Nat) : (rng lo n).length = n := by
  unfold rng
  rw [List.length_map, List.length_range]

def rngD (lo : Int) (n : Nat) : List Int := (List.range n).map fun (j : Nat) => lo + (j : Int) * (-1)
theorem rngD_get {lo : Int} {n i : Nat} (h : i < n) : (rngD lo n)[i]? = some (lo + (i : Int) * (-1)) := by
  unfold rngD
  rw [List.getElem?_map, List.getElem?_range h] <;> rfl
theorem rngD_len (lo : Int) (n : Nat) : (rngD lo n).length = n := by
  unfold rngD
  rw [List.length_map, List.length_range]

/-! ### calls that may raise -/
/-- what a call with n values and keywords ks gives the parameters -/
structure Bnd (K : PySem.W.Frag) (fd : FuncData) (ps : List Str) (n : Nat) (ks : List Str) (g : List V → List V → List V) : Prop where
  to : ∀ (s : Shared) (us ws : List Value) (vs zs : List V), K.In s.heap → vs.length = n → zs.length = ks.length → Vals vs us → Vals zs ws → ∃ vv : List Value, BindsTo s fd ⟨us, ks.zip ws⟩ (ps.zip vv) ∧ Vals (g vs zs) vv
theorem Bnd.of_kbn {K : PySem.W.Frag} {fd : FuncData} {ps ks : List Str} {n : Nat} {g : List Value → List Value → List Value} {gV : List V → List V → List V} (b : KBn K fd ps n ks g gV) : Bnd K fd ps n ks gV :=
  ⟨fun s us ws vs zs X l1 l2 r rz => ⟨g us ws, b.to s us ws X (r.length.symm.trans l1) (rz.length.symm.trans l2), b.rel r rz⟩⟩
theorem Bnd.all {K : PySem.W.Frag} {fd : FuncData} {ps ks : List Str} {n : Nat} {g : List V → List V → List V} (h : ∀ (us ws : List Value) (vs zs : List V), vs.length = n → zs.length = ks.length → Vals vs us → Vals zs ws →
    ∃ vv : List Value, bindArgs fd ⟨us, ks.zip ws⟩ = pure (ps.zip vv) ∧ Vals (g vs zs) vv) : Bnd K fd ps n ks g :=
  ⟨fun s us ws vs zs _ l1 l2 r rz => by
    obtain ⟨vv, e, q⟩ := h us ws vs zs l1 l2 r rz
    exact ⟨vv, BindsTo.of_eq e, q⟩⟩
abbrev Pat := Nat × List Str × (List V → List V → List V)
def Bnd1 (K : PySem.W.Frag) (fd : FuncData) (ps : List Str) (p : Pat) : Prop := Bnd K fd ps p.1 p.2.1 p.2.2
section
variable {P : Program} {w : World} {K : PySem.W.Frag} {mg : Str → Option Value} {base : Heap}
/-- a def of the top, with the ways it is called -/
structure DefX (K : PySem.W.Frag) (mg : Str → Option Value) (x : Str) (st : Stmt) (ps : List Str) (pats : List Pat) : Prop where
  ex : ∃ (f : Addr) (fd : FuncData) (dvs : List V) (kws : List (Str × V)), FunD K x x (defArgs st) (defBody st) (defScope st) dvs kws f fd ∧ mg x = some (.ref f) ∧ ∀ p ∈ pats, Bnd1 K fd ps p
structure CalX (P : Program) (w : World) (K : PySem.W.Frag) (mg : Str → Option Value) (base : Heap) (k : Nat) (x : Str) (sp : Sp) (pats : List Pat) : Prop where
  ex : ∃ (f : Addr) (fd : FuncData) (ps : List Str), FnG P w K mg base (L2.CX P w) k f fd ps sp ∧ mg x = some (.ref f) ∧ PySem.W.keepIn K (.ref f) = true ∧ ∀ p ∈ pats, Bnd1 K fd ps p
abbrev BodyX (P : Program) (w : World) (K : PySem.W.Frag) (mg : Str → Option Value) (base : Heap) (x : Str) (st : Stmt) (N : List Str) (k : Nat) (sp : Sp) : Prop :=
  ∀ (f : Addr) (cdv : Value) (A : Around) (outer : List Env) (s : Shared) (H : Hp) (vs : List V) (Q : VK) (E : XK), RoomG k (A.deeper (envOfC x (defScope st) s.heap.objs.size f cdv)) → sp vs H Q E →
    ∃ t, PSs (cxOf (L2.CX P w) P w K mg base N x (defScope st) f cdv A outer s H E) (defBody st) t ∧ t { nx := fun _ H' => Q .non H', rt := Q } (start N vs) H
theorem DefX.ok {x : Str} {st : Stmt} {N ps : List Str} {pats : List Pat} {k : Nat} {sp : Sp} (D : DefX K mg x st ps pats) (S : FnScope N ps (defScope st)) (len : ∀ vs H Q E, sp vs H Q E → vs.length = ps.length)
    (hbody : BodyX P w K mg base x st N k sp) : CalX P w K mg base (k + 1) x sp pats := by
  obtain ⟨f, fd, dvs, kws, F, hm, b⟩ := D.ex
  exact ⟨f, fd, ps, FnG.body F S len (fun cdv A outer s H vs Q E hr h => hbody f cdv A outer s H vs Q E hr h), hm, F.kp, b⟩
end
section
variable {X : Cx} {k j n : Nat} {f : Addr} {fd : FuncData} {ps ks : List Str} {g : List V → List V → List V} {sp : Sp} {x : Str} {pos p : Pos} {e : Expr} {es : List Expr} {kws : List Keyword} {t tk : TA} {W : WX}
theorem run_X {pins : List (Addr × Obj)} {σ : L2.St} {H : Hp} {s : Shared} {Q : VK} {us ws : List Value} {vs zs : List V} (F : FnG X.prog X.w X.K X.mg X.base (L2.CX X.prog X.w) k f fd ps sp) (hr : RoomG k X.A) (hb : Bnd X.K fd ps n ks g) (tkW : Takes X W)
    (I : Inv X pins σ H s) (r : Vals vs us) (rz : Vals zs ws) (l1 : vs.length = n) (l2 : zs.length = ks.length) (h : sp (g vs zs) H Q (WE W σ)) :
    wpAny (model X.prog X.w) X.A (call (.ref f) us (ks.zip ws)) (EP X pins σ Q) X.xe s := by
  obtain ⟨vv, b, r2⟩ := hb.to s us ws vs zs I.kIn l1 l2 r rz
  refine wpAny_call (codeAny_mono (F.run X.A X.stack s H ⟨us, ks.zip ws⟩ vv (g vs zs) Q (WE W σ) hr I.env0 b r2 h) fun rr s' hq => ?_)
  cases rr with
  | error er => exact passAt tkW σ pins H s er s' I hq
  | ok fl =>
    cases fl with
    | ret u => exact I.after hq
    | next => exact hq.elim
    | brk => exact hq.elim
    | cont => exact hq.elim
/-- f(e, .., k = v, ..) -/
def tCallX (n m : Nat) (sp : Sp) (g : List V → List V → List V) (W : WX) (t tk : TA) : TE := fun σ H Q => t σ H fun vs H1 => tk σ H1 fun zs H2 => vs.length = n ∧ zs.length = m ∧ sp (g vs zs) H2 Q (WE W σ)
theorem vx_callX {pats : List Pat} (c : CalX X.prog X.w X.K X.mg X.base k x sp pats) (pt : Pat) (hpt : pt ∈ pats) (hr : RoomG j X.A) (hk : k ≤ j) (tkW : Takes X W) (hg : Gl X x) (ha : PA X (e :: es) t) (hkw : PK X kws tk)
    (hall : (backToKw pos (keywordEach kws X.env)).all (·.1.isSome) = true := by rfl) (hks : (backToKw pos (keywordEach kws X.env)).filterMap (·.1) = pt.2.1 := by rfl)
    (hdb : (x == ("__debug__" : Str)) = false := by decide) (he : starEach (e :: es) X.env = (false, eval e X.env) :: starEach es X.env := by rfl)
    (hpl : ((backTo pos (starEach (e :: es) X.env)).any (·.1) || (backToKw pos (keywordEach kws X.env)).any (·.1.isNone)) = false := by rfl) :
    PE X (.Call (.Name x p) (e :: es) kws pos) (tCallX pt.1 pt.2.1.length sp pt.2.2 W t tk) := by
  obtain ⟨f, fd, ps, F, hm, kp, b⟩ := c.ex
  refine ⟨fun pins s σ H Q I h => ?_⟩
  refine wpAny_Call_Name_kw (ld_glob I hg hm ?_ hdb)
  refine PySem.W.callWith_KW (h₀ := X.base) I.ok.mod.kin kp hall (thn (ha.run pos pins s σ H _ I h) fun us s1 ⟨vs, H1, I1, r, q⟩ => ?_) hpl he
  refine thn (hkw.run pos pins s1 σ H1 _ I1 q) fun ws s2 ⟨zs, H2, I2, rz, l1, l2, q2⟩ => ⟨I2.kIn, ?_⟩
  rw [hks]
  exact run_X F (hr.low hk) (b pt hpt) tkW I2 r rz l1 l2 q2
theorem vx_callX0 {pats : List Pat} (c : CalX X.prog X.w X.K X.mg X.base k x sp pats) (pt : Pat) (hpt : pt ∈ pats) (hr : RoomG j X.A) (hk : k ≤ j) (tkW : Takes X W) (hg : Gl X x) (hks : pt.2.1 = [] := by rfl)
    (hdb : (x == ("__debug__" : Str)) = false := by decide) : PE X (.Call (.Name x p) [] [] pos) (tCallX pt.1 pt.2.1.length sp pt.2.2 W tNil tNil) := by
  obtain ⟨f, fd, ps, F, hm, kp, b⟩ := c.ex
  refine ⟨fun pins s σ H Q I h => ?_⟩
  refine wpAny_Call_Name_kw (ld_glob I hg hm ?_ hdb)
  obtain ⟨l1, l2, q2⟩ := h
  have hz := run_X (us := []) (ws := []) F (hr.low hk) (b pt hpt) tkW I .nil .nil l1 l2 q2
  rw [hks] at hz
  exact PySem.W.callWith_K0 I.kIn kp hz
end
/-! ### borrowed things -/
theorem Sep.bM {M : List Addr} {H0 G0 G H : Hp} {O : List (Addr)} (S : Sep M H0 G0 G H O) : Same (hideL M H0) H := fun b o e => by
  by_cases h : b ∈ M
  · rw [hideL_in h] at e
    cases e
  · rw [hideL_out h] at e
    exact S.base b o e h
theorem b_ne {M : List Addr} {H0 G0 G H : Hp} {O : List Addr} {a b : Addr} {o : HO} (h : (hideL M H0) a = some o) (S : Sep M H0 G0 G H O) (hb : b ∈ O) : a ≠ b := fun z => by
  subst z
  rcases (S.ow a hb).2.2 with q | q
  · rw [hideL_in q] at h
    cases h
  · by_cases hM : a ∈ M
    · rw [hideL_in hM] at h
      cases h
    · rw [hideL_out hM, q] at h
      cases h
theorem hide0 {H : Hp} : hideL [] H = H := by
  funext b
  unfold hideL
  rw [if_neg List.not_mem_nil]
theorem hide_nil {H : Hp} {a : Addr} {o : HO} (h : H a = some o) : (hideL [] H) a = some o := by
  rw [hide0]
  exact h
theorem Rp.hide_nil {H : Hp} {v : V} {d : PyData} (h : Rp H v d) : Rp (hideL [] H) v d := by
  rw [hide0]
  exact h
theorem Sep.startM {M : List Addr} {G H : Hp} (e : Same G H) (hM : ∀ a ∈ M, H a ≠ none) (hG : ∀ a ∈ M, G a = none) : Sep M H G G H M :=
  ⟨fun _ _ e _ => e, hM, e, Same.refl _, fun _ _ e => e, fun a ha => ⟨hG a ha, hM a ha, .inl ha⟩⟩
theorem Sep.gno {M : List Addr} {H0 G0 G H : Hp} {O L : List Addr} (S : Sep M H0 G0 G H O) (h : ∀ a ∈ L, a ∈ O) : ∀ a ∈ L, G a = none := fun a ha => (S.ow a (h a ha)).1
theorem RpAll.ixD {α : Type} [Inhabited α] {f : α → PyData} {H : Hp} {vs : List V} {xs : List α} {k : Int} (r : RpAll H vs (xs.map f)) (h : -(xs.length : Int) ≤ k ∧ k < xs.length) : ∃ v, atI vs k = some v ∧ Rp H v (f (itD xs k)) := by
  obtain ⟨v, x, h1, h2, h3⟩ := RpAll.ix r h
  refine ⟨v, h1, ?_⟩
  unfold itD
  rw [h2]
  exact h3
theorem tru_all {α : Type} [DecidableEq α] {f : α → PyData} {H : Hp} {vs : List V} {xs : List α} (r : RpAll H vs (xs.map f)) : (!decide (xs = [])) = !vs.isEmpty := by
  have h := r.len
  rw [List.length_map] at h
  cases xs <;> cases vs <;> simp_all
theorem ix_nn {α : Type} {xs : List α} {k : Int} (h0 : 0 ≤ k) (h1 : k < xs.length) : -(xs.length : Int) ≤ k ∧ k < xs.length := ⟨by omega, h1⟩
theorem all_nilQ {α : Type} {P : α → Prop} : ∀ x ∈ ([] : List α), P x := fun x h => by cases h
theorem all_consQ {α : Type} {P : α → Prop} {a : α} {l : List α} (h : P a) (t : ∀ x ∈ l, P x) : ∀ x ∈ a :: l, P x := fun x hx => by
  rcases List.mem_cons.mp hx with rfl | hx
  · exact h
  · exact t x hx
theorem mem_one {a b : Nat} (h : a ∈ [b]) : a = b := by simpa using h
theorem mem_cons2 {a b : Nat} {l : List Nat} (h : a ∈ b :: l) : a = b ∨ a ∈ l := List.mem_cons.mp h
theorem len0 {α : Type} {l : List α} (h : l.length = 0) : l = [] := List.length_eq_zero_iff.mp h
theorem len1 {α : Type} {l : List α} (h : l.length = 1) : ∃ a, l = [a] := List.length_eq_one_iff.mp h
theorem len_s {α : Type} {l : List α} {n : Nat} (h : l.length = n + 1) : ∃ a r, l = a :: r ∧ r.length = n := by
  cases l with
  | nil => cases h
  | cons a r => exact ⟨a, r, rfl, Nat.succ.inj h⟩
theorem len2 {α : Type} {l : List α} (h : l.length = 2) : ∃ a b, l = [a, b] := by
  obtain ⟨a, r, rfl, h2⟩ := len_s h
  obtain ⟨b, rfl⟩ := len1 h2
  exact ⟨a, b, rfl⟩
theorem len3 {α : Type} {l : List α} (h : l.length = 3) : ∃ a b c, l = [a, b, c] := by
  obtain ⟨a, r, rfl, h2⟩ := len_s h
  obtain ⟨b, c, rfl⟩ := len2 h2
  exact ⟨a, b, c, rfl⟩
theorem len4 {α : Type} {l : List α} (h : l.length = 4) : ∃ a b c d, l = [a, b, c, d] := by
  obtain ⟨a, r, rfl, h2⟩ := len_s h
  obtain ⟨b, c, d, rfl⟩ := len3 h2
  exact ⟨a, b, c, d, rfl⟩
theorem len5 {α : Type} {l : List α} (h : l.length = 5) : ∃ a b c d e, l = [a, b, c, d, e] := by
  obtain ⟨a, r, rfl, h2⟩ := len_s h
  obtain ⟨b, c, d, e, rfl⟩ := len4 h2
  exact ⟨a, b, c, d, e, rfl⟩
theorem len6 {α : Type} {l : List α} (h : l.length = 6) : ∃ a b c d e f, l = [a, b, c, d, e, f] := by
  obtain ⟨a, r, rfl, h2⟩ := len_s h
  obtain ⟨b, c, d, e, f, rfl⟩ := len5 h2
  exact ⟨a, b, c, d, e, f, rfl⟩
theorem len7 {α : Type} {l : List α} (h : l.length = 7) : ∃ a b c d e f g, l = [a, b, c, d, e, f, g] := by
  obtain ⟨a, r, rfl, h2⟩ := len_s h
  obtain ⟨b, c, d, e, f, g, rfl⟩ := len6 h2
  exact ⟨a, b, c, d, e, f, g, rfl⟩
def rLenTK (K : PySem.W.Frag) : List V → Hp → VK → Prop := fun xs H Q => ∃ (p : Addr) (vs : List V) (n : Nat), xs = [.ref p] ∧ SqT K H p vs ∧ vs.length = n ∧ Q (.int (n : Int)) H
theorem call_lenTK {X : Cx} {K : PySem.W.Frag} (hK : X.K = K := by rfl) : CallR X (.builtin "len") (rLenTK K) := by
  subst hK
  intro pins s σ H xs us Q I r h
  obtain ⟨p, vs, n, rfl, hs, hn, q⟩ := h
  exact call_len_seq pins s σ H _ us Q I r ⟨p, _, rfl, Or.inr hs, by rw [hn]; exact q⟩
theorem exm_mk {K : PySem.W.Frag} {S C : Addr} (h1 : PySem.W.subIn K (.ref C) (.type "BaseException") = some true) (h2 : PySem.W.isClsIn K C = true) (h3 : PySem.W.typeIn K (.ref C) = some (.type "type")) (h4 : PySem.W.subIn K (.ref S) (.ref C) = some true) :
    PySem.W.exmOne K (.ref S) (.ref C) = some true := by
  unfold PySem.W.isClsIn at h2
  unfold PySem.W.exmOne
  unfold PySem.W.kitCls
  simp only [h1, h2, h3, h4, beq_self_eq_true, Bool.and_self, if_true]
theorem kit_mk {K : PySem.W.Frag} {S C : Addr} (h2 : PySem.W.isClsIn K C = true) (h3 : PySem.W.typeIn K (.ref C) = some (.type "type")) (h4 : PySem.W.subIn K (.ref S) (.ref C) = some true) :
    PySem.W.kitOne K (.ref S) (.ref C) = some true := by
  unfold PySem.W.isClsIn at h2
  unfold PySem.W.kitOne
  split
  · rfl
  · unfold PySem.W.kitCls
    simp only [h2, h3, h4, beq_self_eq_true, Bool.and_self, if_true]
/-- isinstance(e, C) of the exception in hand -/
def rIsX (K : PySem.W.Frag) (a : Addr) (cls : Value) (d : Option Addr) : List V → Hp → VK → Prop := fun xs H Q => ∃ (D C : Addr) (b : Bool), cls = .ref D ∧ d = none ∧ ExcC K D ∧ xs = [.ref a, .ref C] ∧ PySem.W.kitOne K (.ref D) (.ref C) = some b ∧ Q (.bl b) H
theorem call_isX {X : Cx} {K : PySem.W.Frag} {a : Addr} {cls : Value} {d : Option Addr} {oe : Obj} {pn : List (Addr × Obj)} (hz : Zc cls d oe) (hf : ∃ vs, oe.data = .fields vs) (hK : X.K = K := by rfl) : CallR (X.suite a ((a, oe) :: pn)) (.builtin "isinstance") (rIsX K a cls d) := by
  subst hK
  intro pins s σ H xs us Q I r h
  obtain ⟨D, C, b, rfl, rfl, c, rfl, e, q⟩ := h
  exact call_isE c hz hf pins s σ H _ us Q I r ⟨_, _, b, rfl, fun u z => z, e, q⟩
/-! ### unpacking a list -/
section
variable {X : Cx} {K : PySem.W.Frag} {pos : Pos}
theorem pg_seqK {es : List Expr} {k : Nat} {t : TGs} {n : Nat} (h : PGs X es t) (hc : X.calm = true := by rfl) (hK : X.K = K := by rfl)
    (hn : (assignEach es X.env).length = n := by rfl) (hst : (assignEach es X.env).findIdx? (·.1) = none := by rfl) : PG X (.Tuple es k pos) (gLst K n t) := hK ▸ pg_lst hc h hn hst
end
theorem SqL.cast {K : PySem.W.Frag} {H : Hp} {a : Addr} {xs ys : List V} (h : SqL K H a xs) (e : xs = ys) : SqL K H a ys := e ▸ h
section
variable {α : Type} [Inhabited α] {f : α → V}
theorem unp2 {xs : List α} (h : xs.length = 2) : xs.map f = [f (itD xs 0), f (itD xs 1)] := by
  obtain ⟨a, b, rfl⟩ := len2 h
  rfl
theorem unp3 {xs : List α} (h : xs.length = 3) : xs.map f = [f (itD xs 0), f (itD xs 1), f (itD xs 2)] := by
  obtain ⟨a, b, c, rfl⟩ := len3 h
  rfl
theorem unp4 {xs : List α} (h : xs.length = 4) : xs.map f = [f (itD xs 0), f (itD xs 1), f (itD xs 2), f (itD xs 3)] := by
  obtain ⟨a, b, c, d, rfl⟩ := len4 h
  rfl
theorem unp6 {xs : List α} (h : xs.length = 6) : xs.map f = [f (itD xs 0), f (itD xs 1), f (itD xs 2), f (itD xs 3), f (itD xs 4), f (itD xs 5)] := by
  obtain ⟨a, b, c, d, e, g, rfl⟩ := len6 h
  rfl
theorem unp8 {xs : List α} (h : xs.length = 8) : xs.map f = [f (itD xs 0), f (itD xs 1), f (itD xs 2), f (itD xs 3), f (itD xs 4), f (itD xs 5), f (itD xs 6), f (itD xs 7)] := by
  obtain ⟨a, r, rfl, h2⟩ := len_s h
  obtain ⟨b, c, d, e, g, i, j, rfl⟩ := len7 h2
  rfl
end
/-! ### classes -/
section
variable {P : Program} {w : World} {K : PySem.W.Frag} {mg : Str → Option Value} {base : Heap}
structure MethX (K : PySem.W.Frag) (C : Addr) (q m : Str) (st : Stmt) (ps : List Str) (pats : List Pat) : Prop where
  ex : ∃ (f : Addr) (fd : FuncData) (dvs : List V) (kws : List (Str × V)), FunD K m q (defArgs st) (defBody st) (defScope st) dvs kws f fd ∧ Meth K C m f ∧ ∀ p ∈ pats, Bnd1 K fd ps p
structure InitX (K : PySem.W.Frag) (mg : Str → Option Value) (C : Addr) (cn q : Str) (st : Stmt) (ps : List Str) (pats : List Pat) : Prop where
  ex : ∃ (f : Addr) (fd : FuncData) (dvs : List V) (kws : List (Str × V)), FunD K "__init__" q (defArgs st) (defBody st) (defScope st) dvs kws f fd ∧ Mk K C f ∧ mg cn = some (.ref C) ∧ ∀ p ∈ pats, Bnd1 K fd ps p
structure PropX (K : PySem.W.Frag) (C : Addr) (q m : Str) (st : Stmt) (ps : List Str) (pats : List Pat) : Prop where
  ex : ∃ (r f : Addr) (fd : FuncData) (dvs : List V) (kws : List (Str × V)), FunD K m q (defArgs st) (defBody st) (defScope st) dvs kws f fd ∧ PropOf K C m r f ∧ Binds K fd ps []
structure MetX (P : Program) (w : World) (K : PySem.W.Frag) (mg : Str → Option Value) (base : Heap) (k : Nat) (C : Addr) (m : Str) (sp : Sp) (pats : List Pat) : Prop where
  ex : ∃ (f : Addr) (fd : FuncData) (ps : List Str), Cls K C ∧ Meth K C m f ∧ FnG P w K mg base (L2.CX P w) k f fd ps sp ∧ ∀ p ∈ pats, Bnd1 K fd ps p
structure PropY (P : Program) (w : World) (K : PySem.W.Frag) (mg : Str → Option Value) (base : Heap) (k : Nat) (C : Addr) (m : Str) (sp : Sp) (pats : List Pat) : Prop where
  ex : ∃ (q f : Addr) (fd : FuncData) (ps : List Str), Cls K C ∧ PropOf K C m q f ∧ FnG P w K mg base (L2.CX P w) k f fd ps sp ∧ Binds K fd ps []
structure MakX (P : Program) (w : World) (K : PySem.W.Frag) (mg : Str → Option Value) (base : Heap) (k : Nat) (cn : Str) (C : Addr) (sp : Sp) (pats : List Pat) : Prop where
  ex : ∃ (f : Addr) (fd : FuncData) (ps : List Str), Mk K C f ∧ FnG P w K mg base (L2.CX P w) k f fd ps sp ∧ mg cn = some (.ref C) ∧ ∀ p ∈ pats, Bnd1 K fd ps p
theorem MethX.ok {C : Addr} {q m : Str} {st : Stmt} {N ps : List Str} {pats : List Pat} {k : Nat} {sp : Sp} (D : MethX K C q m st ps pats) (c : Cls K C) (S : FnScope N ps (defScope st)) (len : ∀ vs H Q E, sp vs H Q E → vs.length = ps.length)
    (hbody : BodyX P w K mg base q st N k sp) : MetX P w K mg base (k + 1) C m sp pats := by
  obtain ⟨f, fd, dvs, kws, F, me, b⟩ := D.ex
  exact ⟨f, fd, ps, c, me, FnG.body F S len (fun cdv A outer s H vs Q E hr h => hbody f cdv A outer s H vs Q E hr h), b⟩
theorem PropX.ok {C : Addr} {q m : Str} {st : Stmt} {N ps : List Str} {pats : List Pat} {k : Nat} {sp : Sp} (D : PropX K C q m st ps pats) (c : Cls K C) (S : FnScope N ps (defScope st)) (len : ∀ vs H Q E, sp vs H Q E → vs.length = ps.length)
    (hbody : BodyX P w K mg base q st N k sp) : PropY P w K mg base (k + 1) C m sp pats := by
  obtain ⟨r, f, fd, dvs, kws, F, me, b⟩ := D.ex
  exact ⟨r, f, fd, ps, c, me, FnG.body F S len (fun cdv A outer s H vs Q E hr h => hbody f cdv A outer s H vs Q E hr h), b⟩
theorem InitX.ok {C : Addr} {cn q : Str} {st : Stmt} {N ps : List Str} {pats : List Pat} {k : Nat} {sp : Sp} (D : InitX K mg C cn q st ps pats) (S : FnScope N ps (defScope st)) (len : ∀ vs H Q E, sp vs H Q E → vs.length = ps.length)
    (hbody : BodyX P w K mg base q st N k sp) : MakX P w K mg base (k + 1) cn C sp pats := by
  obtain ⟨f, fd, dvs, kws, F, me, hm, b⟩ := D.ex
  exact ⟨f, fd, ps, me, FnG.body F S len (fun cdv A outer s H vs Q E hr h => hbody f cdv A outer s H vs Q E hr h), hm, b⟩
end
theorem cW_callN {α β : Type} {m : Rx β} {f : β → Rx α} {K : α → Prop} {E : Nat → Prop} {K2 : β → Prop} {E2 : Nat → Prop} (h : cW ((noEr m).bind f) K E) (ho : ∀ v, cW (f v) K E → K2 v) (_ : True) : cW m K2 E2 := by
  cases m with
  | ok a => exact cW_mk (ho a h)
  | er e => exact cW_bad (α := α) h
  | bad => exact cW_bad (α := α) h
section
variable {X : Cx} {k j n : Nat} {f C : Addr} {fd : FuncData} {ps ks : List Str} {g : List V → List V → List V} {sp : Sp} {x m : Str} {pos p apos : Pos} {e o : Expr} {es : List Expr} {kws : List Keyword} {ta : TE} {t tk : TA} {W : WX}
theorem run_mkX {pins : List (Addr × Obj)} {σ : L2.St} {H : Hp} {s : Shared} {Q : VK} {us ws : List Value} {vs zs : List V} (M : Mk X.K C f) (F : FnG X.prog X.w X.K X.mg X.base (L2.CX X.prog X.w) k f fd ps sp) (hr : RoomG (k + 1) X.A) (hb : Bnd X.K fd ps n ks g) (tkW : Takes X W)
    (I : Inv X pins σ H s) (r : Vals vs us) (rz : Vals zs ws) (l1 : vs.length + 1 = n) (l2 : zs.length = ks.length)
    (h : ∀ x dx, H x = none → H dx = none → dx ≠ x → sp (g (.ref x :: vs) zs) (upd (upd H dx (.own x)) x (.ins C dx [])) (fun v H2 => v = .non ∧ Q (.ref x) H2) (WE W σ)) :
    wpAny (model X.prog X.w) X.A (call (.ref C) us (ks.zip ws)) (EP X pins σ Q) X.xe s := by
  have hq := h (s.heap.objs.size + 1) s.heap.objs.size (I.hok.fresh (Nat.le_succ _)) (I.hok.fresh (Nat.le_refl _)) (Nat.ne_of_lt (Nat.lt_succ_self _))
  have I2 := Inv.made (C := C) I
  have r1 : Vals (V.ref (s.heap.objs.size + 1) :: vs) (Value.ref (s.heap.objs.size + 1) :: us) := .cons rfl r
  obtain ⟨vv, b, r2⟩ := hb.to _ (Value.ref (s.heap.objs.size + 1) :: us) ws (V.ref (s.heap.objs.size + 1) :: vs) zs I2.kIn (by rw [List.length_cons, l1]) l2 r1 rz
  refine wpAny_call (make_map (f := f) I.kIn M.makes M.init (beq_iff_eq.mp M.fn) (codeAny_mono (F.run _ X.stack _ _ ⟨Value.ref (s.heap.objs.size + 1) :: us, ks.zip ws⟩ vv _ _ (WE W σ) (hr.made C us (ks.zip ws))
    (I2.env0.make C us (ks.zip ws)) b r2 hq) fun r s' hq' => ?_))
  cases r with
  | error e => exact passAt tkW σ pins _ _ e s' I2 hq'
  | ok fl =>
    cases fl with
    | ret u =>
      obtain ⟨v, H', I3, rv, ev, q3⟩ := I2.after hq'
      subst ev
      exact ⟨rv, ⟨V.ref (s.heap.objs.size + 1), H', I3, rfl, q3⟩⟩
    | next => exact False.elim hq'
    | brk => exact False.elim hq'
    | cont => exact False.elim hq'
/-- C(e, .., k = v, ..) -/
def tMakeX (C : Addr) (n m : Nat) (sp : Sp) (g : List V → List V → List V) (W : WX) (t tk : TA) : TE := fun σ H Q => t σ H fun vs H1 => tk σ H1 fun zs H2 => vs.length + 1 = n ∧ zs.length = m ∧ ∀ x dx, H2 x = none → H2 dx = none → dx ≠ x →
  sp (g (.ref x :: vs) zs) (upd (upd H2 dx (.own x)) x (.ins C dx [])) (fun v H3 => v = .non ∧ Q (.ref x) H3) (WE W σ)
theorem vx_makeX {pats : List Pat} (c : MakX X.prog X.w X.K X.mg X.base k x C sp pats) (pt : Pat) (hpt : pt ∈ pats) (hr : RoomG j X.A) (hk : k + 1 ≤ j) (tkW : Takes X W) (hg : Gl X x) (ha : PA X (e :: es) t) (hkw : PK X kws tk)
    (hall : (backToKw pos (keywordEach kws X.env)).all (·.1.isSome) = true := by rfl) (hks : (backToKw pos (keywordEach kws X.env)).filterMap (·.1) = pt.2.1 := by rfl) (hdb : (x == ("__debug__" : Str)) = false := by decide)
    (he : starEach (e :: es) X.env = (false, eval e X.env) :: starEach es X.env := by rfl) (hpl : ((backTo pos (starEach (e :: es) X.env)).any (·.1) || (backToKw pos (keywordEach kws X.env)).any (·.1.isNone)) = false := by rfl) :
    PE X (.Call (.Name x p) (e :: es) kws pos) (tMakeX C pt.1 pt.2.1.length sp pt.2.2 W t tk) := by
  obtain ⟨f, fd, ps, M, F, hm, b⟩ := c.ex
  refine ⟨fun pins s σ H Q I h => ?_⟩
  refine wpAny_Call_Name_kw (ld_glob I hg hm ?_ hdb)
  refine PySem.W.callWith_KW (h₀ := X.base) I.ok.mod.kin M.kp hall (thn (ha.run pos pins s σ H _ I h) fun us s1 ⟨vs, H1, I1, r, q⟩ => ?_) hpl he
  refine thn (hkw.run pos pins s1 σ H1 _ I1 q) fun ws s2 ⟨zs, H2, I2, rz, l1, l2, q2⟩ => ⟨I2.kIn, ?_⟩
  rw [hks]
  exact run_mkX M F (hr.low hk) (b pt hpt) tkW I2 r rz l1 l2 q2
theorem vx_makeX0 {pats : List Pat} (c : MakX X.prog X.w X.K X.mg X.base k x C sp pats) (pt : Pat) (hpt : pt ∈ pats) (hr : RoomG j X.A) (hk : k + 1 ≤ j) (tkW : Takes X W) (hg : Gl X x) (hks : pt.2.1 = [] := by rfl)
    (hdb : (x == ("__debug__" : Str)) = false := by decide) : PE X (.Call (.Name x p) [] [] pos) (tMakeX C pt.1 pt.2.1.length sp pt.2.2 W tNil tNil) := by
  obtain ⟨f, fd, ps, M, F, hm, b⟩ := c.ex
  refine ⟨fun pins s σ H Q I h => ?_⟩
  refine wpAny_Call_Name_kw (ld_glob I hg hm ?_ hdb)
  obtain ⟨l1, l2, q2⟩ := h
  have hz := run_mkX (us := []) (ws := []) M F (hr.low hk) (b pt hpt) tkW I .nil .nil l1 l2 q2
  rw [hks] at hz
  exact PySem.W.callWith_K0 I.kIn M.kp hz
/-- o.m(e, .., k = v, ..) -/
def tMethX (C : Addr) (m : Str) (n mm : Nat) (sp : Sp) (g : List V → List V → List V) (W : WX) (ta : TE) (t tk : TA) : TE := fun σ H Q => ta σ H fun x H1 => ∃ a dx fs, x = .ref a ∧ H1 a = some (.ins C dx fs) ∧ fs.lookup m = none ∧
  t σ H1 fun vs H2 => tk σ H2 fun zs H3 => (x :: vs).length = n ∧ zs.length = mm ∧ sp (g (x :: vs) zs) H3 Q (WE W σ)
theorem vx_methX {pats : List Pat} {pl : Sem Bool} (c : MetX X.prog X.w X.K X.mg X.base k C m sp pats) (pt : Pat) (hpt : pt ∈ pats) (hr : RoomG j X.A) (hk : k ≤ j) (tkW : Takes X W) (he : PE X o ta) (ha : PA X (e :: es) t) (hkw : PK X kws tk)
    (hall : (backToKw pos (keywordEach kws X.env)).all (·.1.isSome) = true := by rfl) (hks : (backToKw pos (keywordEach kws X.env)).filterMap (·.1) = pt.2.1 := by rfl)
    (hst : starEach (e :: es) X.env = (false, eval e X.env) :: starEach es X.env := by rfl) (hpl : ((backTo pos (starEach (e :: es) X.env)).any (·.1) || (backToKw pos (keywordEach kws X.env)).any (·.1.isNone)) = false := by rfl)
    (ht : eval (.Call (.Attribute o m apos) (e :: es) kws pos) X.env = (do
      let ov ← eval o X.env
      standAt apos.atName
      let (f, first) ← holding [ov] (getMethod ov m pl)
      callWith pos f first (backTo pos (starEach (e :: es) X.env)) (backToKw pos (keywordEach kws X.env))) := by rfl) :
    PE X (.Call (.Attribute o m apos) (e :: es) kws pos) (tMethX C m pt.1 pt.2.1.length sp pt.2.2 W ta t tk) := by
  obtain ⟨f, fd, ps, hc, hm, F, b⟩ := c.ex
  refine ⟨fun pins s σ H Q I h => ?_⟩
  refine PySem.W.methodCall_KW (pl := pl) (thn (he.run pins s σ H _ I h) fun u s1 ⟨x, H1, I1, rx, a, dx, fs, ex, ea, l, q⟩ => ?_) ht
  subst ex
  obtain rfl : u = Value.ref a := rx
  refine getmeth_ok I1 ea hc hm l ?_
  refine PySem.W.callWith_KW (first := [.ref a]) (h₀ := X.base) I.ok.mod.kin hm.kp hall (thn (ha.run pos pins s1 σ H1 _ I1 q) fun us s2 ⟨vs, H2, I2, r, q2⟩ => ?_) hpl hst
  refine thn (hkw.run pos pins s2 σ H2 _ I2 q2) fun ws s3 ⟨zs, H3, I3, rz, l1, l2, q3⟩ => ⟨I3.kIn, ?_⟩
  rw [hks]
  exact run_X (us := .ref a :: us) (vs := .ref a :: vs) F (hr.low hk) (b pt hpt) tkW I3 (.cons rfl r) rz l1 l2 q3
theorem vx_methX0 {pats : List Pat} {pl : Sem Bool} (c : MetX X.prog X.w X.K X.mg X.base k C m sp pats) (pt : Pat) (hpt : pt ∈ pats) (hr : RoomG j X.A) (hk : k ≤ j) (tkW : Takes X W) (he : PE X o ta) (hks : pt.2.1 = [] := by rfl)
    (ht : eval (.Call (.Attribute o m apos) [] [] pos) X.env = (do
      let ov ← eval o X.env
      standAt apos.atName
      let (f, first) ← holding [ov] (getMethod ov m pl)
      callWith pos f first (backTo pos (starEach [] X.env)) (backToKw pos (keywordEach [] X.env))) := by rfl) :
    PE X (.Call (.Attribute o m apos) [] [] pos) (tMethX C m pt.1 pt.2.1.length sp pt.2.2 W ta tNil tNil) := by
  obtain ⟨f, fd, ps, hc, hm, F, b⟩ := c.ex
  refine ⟨fun pins s σ H Q I h => ?_⟩
  refine PySem.W.methodCall_KW (pl := pl) (thn (he.run pins s σ H _ I h) fun u s1 ⟨x, H1, I1, rx, a, dx, fs, ex, ea, l, q⟩ => ?_) ht
  subst ex
  obtain rfl : u = Value.ref a := rx
  refine getmeth_ok I1 ea hc hm l ?_
  obtain ⟨l1, l2, q3⟩ := q
  have hz := run_X (us := [.ref a]) (vs := [.ref a]) (ws := []) F (hr.low hk) (b pt hpt) tkW I1 (.cons rfl .nil) .nil l1 l2 q3
  rw [hks] at hz
  exact PySem.W.callWith_K0 (first := [.ref a]) I1.kIn hm.kp hz
theorem vx_propX {pats : List Pat} (c : PropY X.prog X.w X.K X.mg X.base k C m sp pats) (hr : RoomG j X.A) (hk : k + 1 ≤ j) (he : PE X o ta) (hab : attributeBase o m X.env (eval o X.env) = eval o X.env := by rfl) : PE X (.Attribute o m pos) (tProp C sp [] E0 ta) := by
  obtain ⟨q, f, fd, ps, cls, prop, F, bind⟩ := c.ex
  constructor
  intro pins s σ H Q I h
  refine attr_of hab (thn (he.run pins s σ H _ I h) ?_)
  rintro u s1 ⟨x, H1, I1, rx, a, dx, fs, rfl, ea, prom⟩
  cases rx
  obtain ⟨mA, O, _⟩ := ins_get I1.hok ea
  obtain ⟨od, J, _⟩ := O.look
  obtain ⟨rest, rec_⟩ := prop.rec_
  have short : [Value.ref a].length = ps.length := (F.len _ _ _ _ prom).symm ▸ rfl
  have isCls : (PySem.W.clsIn X.K C).isSome = true := by
    obtain ⟨cd, e, _⟩ := PySem.W.any_some cls.hd
    rw [e]
    rfl
  refine PySem.W.get_bind I1.kIn J (PySem.W.plainGet_of (cls.get m)).1 (PySem.W.findObj_data isCls prop.at_ prop.get prop.tak) (PySem.W.plainGet_of (cls.get m)).2 (wpAny_call (PySem.W.prop_get (s := { s1 with toks := s1.toks + 1 }) I1.kIn rec_ ?_))
  have I2 := I1.tok (s1.toks + 1)
  refine codeAny_mono (F.run X.A.in1 X.stack _ H1 ⟨[.ref a], []⟩ [.ref a] [.ref a] Q E0 (hr.low hk).one I2.env0.in1 (by simpa using bind _ [.ref a] I2.kIn (by simpa using short)) (.cons rfl .nil) prom) ?_
  intro r s2 out
  cases r with
  | error er => exact (passL (X := X.nox) pins σ H1 _ er s2 (I2.wish _) out).elim
  | ok flow =>
    cases flow with
    | ret v =>
      obtain ⟨y, H2, I3, ry, qy⟩ := I2.after out
      have given := PySem.W.handedOut_of (handed_of ry)
      show wpAny _ _ (handedOut v) _ _ s2
      rw [given]
      exact wpAny_pure ⟨y, H2, I3, ry, qy⟩
    | next => exact out.elim
    | brk => exact out.elim
    | cont => exact out.elim
end
theorem Sep.news {M : List Addr} {H0 G0 G H H' : Hp} {O : List Addr} (S : Sep M H0 G0 G H O) (e : Same H H') (L : List Addr) (hL : ∀ a ∈ L, H a = none ∧ H' a ≠ none ∧ H0 a = none) : Sep M H0 G0 G H' (L ++ O) := by
  have S2 := S.same e
  refine ⟨S2.base, S2.pm, S2.sG, S2.g0, S2.gn, fun a ha => ?_⟩
  rcases List.mem_append.mp ha with h | h
  · obtain ⟨h1, h2, h3⟩ := hL a h
    exact ⟨S.gfree h1, h2, .inr h3⟩
  · exact S2.ow a h
theorem vv_chain {r r' : R2} {ta tb tc : TE} {σ : L2.St} {H : Hp} {x y z : V} {a b : Bool} (ha : Val ta σ H x) (hb : Val tb σ H y) (hc : Val tc σ H z) (h1 : ∀ Q : VK, Q (.bl a) H → r x y H Q) (h2 : ∀ Q : VK, Q (.bl b) H → r' y z H Q) :
    Val (tChain r r' ta tb tc) σ H (.bl (a && b)) := fun Q q => ha _ (hb _ (h1 _ ⟨a, rfl, by
  cases a with
  | true =>
    rw [if_pos rfl]
    exact hc _ (h2 _ q)
  | false =>
    rw [if_neg Bool.false_ne_true]
    exact q⟩))
/-! ### constants that are tuples, lists backwards, zip -/
theorem inV_ints (x : Int) : ∀ xs : List Int, inV (V.int x) (xs.map V.int) = decide (x ∈ xs)
  | [] => by simp [inV]
  | y :: r => by
    have h := inV_ints x r
    unfold inV at h ⊢
    rw [List.map_cons, List.any_cons, h]
    by_cases c : x = y
    · subst c
      simp [eqV]
    · simp [eqV, c, Ne.symm c]
theorem flat_ints : ∀ xs : List Int, (xs.map V.int).all flatV = true
  | [] => rfl
  | _ :: r => flat_ints r
def rInI (K : PySem.W.Frag) : R2 := fun x y H Q => ∃ (i : Int) (p : Addr) (xs : List Int), x = .int i ∧ y = .ref p ∧ (SqL K H p (xs.map V.int) ∨ SqT K H p (xs.map V.int)) ∧ Q (.bl (decide (i ∈ xs))) H
def rNotInI (K : PySem.W.Frag) : R2 := fun x y H Q => ∃ (i : Int) (p : Addr) (xs : List Int), x = .int i ∧ y = .ref p ∧ (SqL K H p (xs.map V.int) ∨ SqT K H p (xs.map V.int)) ∧ Q (.bl (!decide (i ∈ xs))) H
theorem op_inI {X : Cx} {K : PySem.W.Frag} (hK : X.K = K := by rfl) : OpR X (compareOp .In) (rInI K) := by
  subst hK
  intro pins s σ H x y v u Q I rx ry h
  obtain ⟨i, p, xs, rfl, rfl, hs, q⟩ := h
  refine op_in_seq pins s σ H _ _ v u Q I rx ry ⟨p, _, rfl, hs, rfl, flat_ints xs, ?_⟩
  rw [if_neg Bool.false_ne_true, inV_ints]
  exact q
theorem op_notInI {X : Cx} {K : PySem.W.Frag} (hK : X.K = K := by rfl) : OpR X (compareOp .NotIn) (rNotInI K) := by
  subst hK
  intro pins s σ H x y v u Q I rx ry h
  obtain ⟨i, p, xs, rfl, rfl, hs, q⟩ := h
  refine op_notIn_seq pins s σ H _ _ v u Q I rx ry ⟨p, _, rfl, hs, rfl, flat_ints xs, ?_⟩
  rw [if_pos rfl, inV_ints]
  exact q
theorem pe_revLK {X : Cx} {K : PySem.W.Frag} {e : Expr} {te : TE} {k : Nat} {p1 p2 p3 pos : Pos} (he : PE X e te) (hK : X.K = K := by rfl) : PE X (.Subscript e (.Slice none none (some (.UnaryOp .USub (.Constant (.int 1) k p1) p2)) p3) pos) (tRevL K te) := hK ▸ pe_revL he
theorem rev_map {α : Type} {f : α → V} {xs : List α} {H : Hp} {p : Addr} (h : H p = some (.lst (xs.map f).reverse)) : H p = some (.lst (xs.reverse.map f)) := by
  rw [List.map_reverse]
  exact h
theorem RpAll.rev {G : Hp} : ∀ {vs : List V} {ds : List PyData}, RpAll G vs ds → RpAll G vs.reverse ds.reverse
  | _, _, .nil => .nil
  | _, _, .cons h t => by
    rw [List.reverse_cons, List.reverse_cons]
    exact (RpAll.rev t).append (.one h)
theorem rev_all {α : Type} {f : α → PyData} {xs : List α} {G : Hp} {vs : List V} (a : RpAll G vs (xs.map f)) : RpAll G vs.reverse (xs.reverse.map f) := by
  rw [List.map_reverse]
  exact a.rev
theorem pi_zipK {X : Cx} {K : PySem.W.Frag} {e e2 : Expr} {ta : TA} {p pos tpos : Pos} {elts : List Expr} {kk : Nat} (hg : Gl X "zip") (hm : X.mg "zip" = none) (ha : PA X [e, e2] ta) (hK : X.K = K := by rfl)
    (hs : starEach [e, e2] X.env = (false, eval e X.env) :: starEach [e2] X.env := by rfl) (hpl : (backTo pos (starEach [e2] X.env)).any (·.1) = false := by rfl) :
    PI X (.Tuple elts kk tpos) (.Call (.Name "zip" p) [e, e2] [] pos) (RZ.iZipA K ta) := hK ▸ RZ.pi_zipA hg hm ha hs hpl
/-- a comprehension over zip of two lists of one length -/
theorem lc_zipL {K : PySem.W.Frag} {a b : Addr} {xs ys : List V} {g : TG} {tt : TT} {te : TE} {vs : List Nat} {σ : L2.St} {H1 : Hp} {D : Addr} {Qd : Hp → Prop} (hl : xs.length = ys.length) (Pv : Nat → Hp → Prop) (h0 : Pv 0 (upd H1 D (.lst []))) (hq : ∀ i H, i ≤ xs.length → Pv i H → SqL K H a xs ∧ SqL K H b ys)
    (hs : ∀ (i : Nat) (x y : V) (T : Addr) (H : Hp), xs[i]? = some x → ys[i]? = some y → H T = none → Pv i H → g (.ref T) (wipe σ vs) (upd H T (.tup [x, y])) fun σ2 H2 => wipe σ2 vs = wipe σ vs ∧ tt σ2 H2 fun b H3 =>
      if b = true then te σ2 H3 fun y H4 => ∃ acc, H4 D = some (.lst acc) ∧ acc.length < sizeLine ∧ Pv (i + 1) (upd H4 D (.lst (acc ++ [y]))) else Pv (i + 1) H3) (hd : ∀ H, Pv xs.length H → Qd H) :
    ∃ W : Nat → Nat → Hp → Prop, (∃ m, W 0 m (upd H1 D (.lst []))) ∧ ∀ i m H, W i m H →
      ((Itz K a b).stop i H ∧ Qd H) ∨ ((Itz K a b).go i H ∧ ∃ Nx : Hp → Prop, (∀ H', Nx H' → ∃ m', m' < m ∧ W (i + 1) m' H') ∧ ∀ x H', (Itz K a b).yld i H x H' → g x (wipe σ vs) H' fun σ2 H2 => wipe σ2 vs = wipe σ vs ∧ tt σ2 H2 fun b H3 =>
        if b = true then te σ2 H3 fun y H4 => ∃ acc, H4 D = some (.lst acc) ∧ acc.length < sizeLine ∧ Nx (upd H4 D (.lst (acc ++ [y]))) else Nx H3) := by
  refine ⟨fun i m H => m = xs.length - i ∧ i ≤ xs.length ∧ Pv i H, ⟨xs.length, by simp, Nat.zero_le _, h0⟩, ?_⟩
  rintro i m H ⟨rfl, hi, p⟩
  obtain ⟨qx, qy⟩ := hq i H hi p
  by_cases hlt : i < xs.length
  · have hlt2 : i < ys.length := by omega
    refine .inr ⟨⟨xs, ys, xs[i], ys[i], qx, qy, List.getElem?_eq_getElem hlt, List.getElem?_eq_getElem hlt2⟩, Pv (i + 1), fun H' p' => ⟨xs.length - (i + 1), by omega, rfl, hlt, p'⟩, fun v H' y => ?_⟩
    obtain ⟨T, x', y', rfl, hT, rfl, f1, f2⟩ := y
    exact hs i x' y' T H (f1 xs qx) (f2 ys qy) hT p
  · have e : i = xs.length := by omega
    subst e
    exact .inl ⟨⟨xs, ys, qx, qy, Or.inl (Nat.le_refl _)⟩, hd H p⟩
theorem zip_get {α β : Type} {xs : List α} {ys : List β} {i : Nat} {x : α} {y : β} (h1 : xs[i]? = some x) (h2 : ys[i]? = some y) : (xs.zip ys)[i]? = some (x, y) := by
  rw [List.getElem?_zip_eq_some]
  exact ⟨h1, h2⟩
theorem zip_len {α β : Type} {xs : List α} {ys : List β} {n : Nat} (h : xs.length = ys.length) (e : n = xs.length) : n = (xs.zip ys).length := by
  rw [List.length_zip, ← h, Nat.min_self]
  exact e
theorem zlen {α β : Type} {vs ws : List V} {xs : List α} {ys : List β} (a : vs.length = xs.length) (b : ws.length = ys.length) (h : xs.length = ys.length) : vs.length = ws.length := by rw [a, b, h]
section
variable {t : TT} {ta tb : TE} {σ : L2.St} {H : Hp}
theorem vv_ifP {p : Prop} [Decidable p] {a b : Int} (ht : Ans t σ H (decide p)) (hx : p → Val ta σ H (.int a)) (hy : ¬ p → Val tb σ H (.int b)) : Val (tIf t ta tb) σ H (.int (if p then a else b)) := by
  by_cases h : p
  · have := vv_if (p := p) (a := a) (b := a) ht (hx h) (tb := ta) (hx h)
    intro Q q
    refine ht _ ?_
    rw [decide_eq_true h, if_pos rfl]
    rw [if_pos h] at q
    exact hx h _ q
  · intro Q q
    refine ht _ ?_
    rw [decide_eq_false h, if_neg Bool.false_ne_true]
    rw [if_neg h] at q
    exact hy h _ q
theorem vv_ifQ {c : Bool} {a b : Int} (ht : Ans t σ H c) (hx : c = true → Val ta σ H (.int a)) (hy : c = false → Val tb σ H (.int b)) : Val (tIf t ta tb) σ H (.int (if c = true then a else b)) := by
  intro Q q
  refine ht _ ?_
  cases c with
  | true =>
    rw [if_pos rfl]
    rw [if_pos rfl] at q
    exact hx rfl _ q
  | false =>
    rw [if_neg Bool.false_ne_true]
    rw [if_neg Bool.false_ne_true] at q
    exact hy rfl _ q
end
theorem kit_mk0 {K : PySem.W.Frag} {S C : Addr} (h1 : (Value.ref S == Value.ref C) = false) (h2 : PySem.W.isClsIn K C = true) (h3 : PySem.W.typeIn K (.ref C) = some (.type "type")) (h4 : PySem.W.subIn K (.ref S) (.ref C) = some false) :
    PySem.W.kitOne K (.ref S) (.ref C) = some false := by
  unfold PySem.W.isClsIn at h2
  unfold PySem.W.kitOne
  rw [if_neg (by rw [h1]; exact Bool.false_ne_true)]
  unfold PySem.W.kitCls
  simp only [h2, h3, h4, beq_self_eq_true, Bool.and_self, if_true]
theorem vv_call2 {ta tb : TE} {σ : L2.St} {H : Hp} {x y z : V} {r : List V → Hp → VK → Prop} (ha : Val ta σ H x) (hb : Val tb σ H y) (hr : ∀ Q : VK, Q z H → r [x, y] H Q) : Val (tCB r (tCons ta (tCons tb tNil))) σ H z := fun Q q => ha _ (hb _ (hr Q q))
/-! ### lists of data that the caller owns; values that are a truth value or a number -/
theorem Sep.stepnew {M : List Addr} {H0 G0 G H H' : Hp} {O : List Addr} {p : Addr} {o : HO} (S : Sep M H0 G0 G H O) {G' : Hp} (e : Same H H') (eG : Same G G') (sG : Same G' H') (hn : ∀ b, H b ≠ none → G b = none → G' b = none) (_n : H p = none) (h : H' p = some o) (g : G' p = none) (hm : H0 p = none) : Sep M H0 G0 G' H' (p :: O) := by
  have S2 := S.step e eG sG hn
  refine ⟨S2.base, S2.pm, S2.sG, S2.g0, S2.gn, fun a ha => ?_⟩
  rcases List.mem_cons.mp ha with rfl | ha
  · exact ⟨g, (fun z => by rw [z] at h; cases h), .inr hm⟩
  · exact S2.ow a ha
inductive Bi where
  | b (x : Bool)
  | n (i : Int)
deriving DecidableEq
def biV : Bi → V
  | .b x => .bl x
  | .n i => .int i
def Bi.el {α : Type} (v : Bi) (f : Bool → α) (g : Int → α) : α :=
  match v with
  | .b x => f x
  | .n i => g i
theorem cW_elb {α : Type} {x : Bool} {f : Bool → Rx α} {g : Int → Rx α} {K : α → Prop} {E : Nat → Prop} (h : cW (Bi.el (.b x) f g) K E) : cW (f x) K E := h
theorem cW_eln {α : Type} {x : Int} {f : Bool → Rx α} {g : Int → Rx α} {K : α → Prop} {E : Nat → Prop} (h : cW (Bi.el (.n x) f g) K E) : cW (g x) K E := h
theorem rp_tup4 {α β γ δ : Type} {f : α → PyData} {g : β → PyData} {h : γ → PyData} {i : δ → PyData} {H : Hp} {v : V} {x : α × β × γ × δ} (r : Rp H v (encT4 f g h i x)) : ∃ a v1 v2 v3 v4, v = .ref a ∧ H a = some (.tup [v1, v2, v3, v4]) ∧ Rp H v1 (f x.1) ∧ Rp H v2 (g x.2.1) ∧ Rp H v3 (h x.2.2.1) ∧ Rp H v4 (i x.2.2.2) := by
  unfold encT4 at r
  cases r with
  | tup h1 h2 =>
    cases h2 with
    | cons a b =>
      cases b with
      | cons b c =>
        cases c with
        | cons c d =>
          cases d with
          | cons d e =>
            cases e
            exact ⟨_, _, _, _, _, rfl, h1, a, b, c, d⟩
theorem rp_mk4 {α β γ δ : Type} {f : α → PyData} {g : β → PyData} {h : γ → PyData} {i : δ → PyData} {H : Hp} {a : Addr} {v1 v2 v3 v4 : V} {x : α} {y : β} {z : γ} {w : δ} (h1 : H a = some (.tup [v1, v2, v3, v4])) (r1 : Rp H v1 (f x)) (r2 : Rp H v2 (g y)) (r3 : Rp H v3 (h z)) (r4 : Rp H v4 (i w)) : Rp H (.ref a) (encT4 f g h i (x, y, z, w)) := .tup h1 (.cons r1 (.cons r2 (.cons r3 (.cons r4 .nil))))
theorem Sep.b0M {M : List Addr} {H0 G0 G H : Hp} {O : List Addr} (S : Sep M H0 G0 G H O) (h : ∀ a ∈ M, H a = H0 a) : Same H0 H := fun b o e => by
  by_cases z : b ∈ M
  · rw [h b z]
    exact e
  · exact S.base b o e z
section
variable {X : Cx} {k j n : Nat} {f C : Addr} {fd : FuncData} {ps ks : List Str} {g : List V → List V → List V} {sp : Sp} {x m : Str} {pos p apos : Pos} {e o : Expr} {es : List Expr} {kws : List Keyword} {ta : TE} {t tk : TA} {W : WX}
/-- keywords alone -/
theorem vx_makeXK {pats : List Pat} (c : MakX X.prog X.w X.K X.mg X.base k x C sp pats) (pt : Pat) (hpt : pt ∈ pats) (hr : RoomG j X.A) (hk : k + 1 ≤ j) (tkW : Takes X W) (hg : Gl X x) (hkw : PK X kws tk)
    (hall : (backToKw pos (keywordEach kws X.env)).all (·.1.isSome) = true := by rfl) (hks : (backToKw pos (keywordEach kws X.env)).filterMap (·.1) = pt.2.1 := by rfl) (hdb : (x == ("__debug__" : Str)) = false := by decide)
    (hpl : ((backTo pos (starEach [] X.env)).any (·.1) || (backToKw pos (keywordEach kws X.env)).any (·.1.isNone)) = false := by rfl) :
    PE X (.Call (.Name x p) [] kws pos) (tMakeX C pt.1 pt.2.1.length sp pt.2.2 W tNil tk) := by
  obtain ⟨f, fd, ps, M, F, hm, b⟩ := c.ex
  refine ⟨fun pins s σ H Q I h => ?_⟩
  refine wpAny_Call_Name_kw (ld_glob I hg hm ?_ hdb)
  refine PySem.W.callWith_KW0 (h₀ := X.base) I.ok.mod.kin M.kp hall ?_ hpl
  refine thn (hkw.run pos pins s σ H _ I h) fun ws s2 ⟨zs, H2, I2, rz, l1, l2, q2⟩ => ⟨I2.kIn, ?_⟩
  rw [hks]
  exact run_mkX (us := []) (vs := []) M F (hr.low hk) (b pt hpt) tkW I2 .nil rz l1 l2 q2
theorem vx_callXK {pats : List Pat} (c : CalX X.prog X.w X.K X.mg X.base k x sp pats) (pt : Pat) (hpt : pt ∈ pats) (hr : RoomG j X.A) (hk : k ≤ j) (tkW : Takes X W) (hg : Gl X x) (hkw : PK X kws tk)
    (hall : (backToKw pos (keywordEach kws X.env)).all (·.1.isSome) = true := by rfl) (hks : (backToKw pos (keywordEach kws X.env)).filterMap (·.1) = pt.2.1 := by rfl) (hdb : (x == ("__debug__" : Str)) = false := by decide)
    (hpl : ((backTo pos (starEach [] X.env)).any (·.1) || (backToKw pos (keywordEach kws X.env)).any (·.1.isNone)) = false := by rfl) :
    PE X (.Call (.Name x p) [] kws pos) (tCallX pt.1 pt.2.1.length sp pt.2.2 W tNil tk) := by
  obtain ⟨f, fd, ps, F, hm, kp, b⟩ := c.ex
  refine ⟨fun pins s σ H Q I h => ?_⟩
  refine wpAny_Call_Name_kw (ld_glob I hg hm ?_ hdb)
  refine PySem.W.callWith_KW0 (h₀ := X.base) I.ok.mod.kin kp hall ?_ hpl
  refine thn (hkw.run pos pins s σ H _ I h) fun ws s2 ⟨zs, H2, I2, rz, l1, l2, q2⟩ => ⟨I2.kIn, ?_⟩
  rw [hks]
  exact run_X (us := []) (vs := []) F (hr.low hk) (b pt hpt) tkW I2 .nil rz l1 l2 q2
theorem vx_methXK {pats : List Pat} {pl : Sem Bool} (c : MetX X.prog X.w X.K X.mg X.base k C m sp pats) (pt : Pat) (hpt : pt ∈ pats) (hr : RoomG j X.A) (hk : k ≤ j) (tkW : Takes X W) (he : PE X o ta) (hkw : PK X kws tk)
    (hall : (backToKw pos (keywordEach kws X.env)).all (·.1.isSome) = true := by rfl) (hks : (backToKw pos (keywordEach kws X.env)).filterMap (·.1) = pt.2.1 := by rfl)
    (hpl : ((backTo pos (starEach [] X.env)).any (·.1) || (backToKw pos (keywordEach kws X.env)).any (·.1.isNone)) = false := by rfl)
    (ht : eval (.Call (.Attribute o m apos) [] kws pos) X.env = (do
      let ov ← eval o X.env
      standAt apos.atName
      let (f, first) ← holding [ov] (getMethod ov m pl)
      callWith pos f first (backTo pos (starEach [] X.env)) (backToKw pos (keywordEach kws X.env))) := by rfl) :
    PE X (.Call (.Attribute o m apos) [] kws pos) (tMethX C m pt.1 pt.2.1.length sp pt.2.2 W ta tNil tk) := by
  obtain ⟨f, fd, ps, hc, hm, F, b⟩ := c.ex
  refine ⟨fun pins s σ H Q I h => ?_⟩
  refine PySem.W.methodCall_KW (pl := pl) (thn (he.run pins s σ H _ I h) fun u s1 ⟨x, H1, I1, rx, a, dx, fs, ex, ea, l, q⟩ => ?_) ht
  subst ex
  obtain rfl : u = Value.ref a := rx
  refine getmeth_ok I1 ea hc hm l ?_
  refine PySem.W.callWith_KW0 (first := [.ref a]) (h₀ := X.base) I.ok.mod.kin hm.kp hall ?_ hpl
  refine thn (hkw.run pos pins s1 σ H1 _ I1 q) fun ws s3 ⟨zs, H3, I3, rz, l1, l2, q3⟩ => ⟨I3.kIn, ?_⟩
  rw [hks]
  exact run_X (us := [.ref a]) (vs := [.ref a]) F (hr.low hk) (b pt hpt) tkW I3 (.cons rfl .nil) rz l1 l2 q3
end
end Vx
/-! # lists within lists that are owned as a whole -/
namespace Vx
open PySem PySem.Spec PyProof.Rows L2
inductive Kd where
  | lst
  | tup
  | ins (C dx : Addr) (ns : List Str)
def Kd.ho : Kd → List V → HO
  | .lst, vs => .lst vs
  | .tup, vs => .tup vs
  | .ins C dx ns, vs => .ins C dx (ns.zip vs)
/-- what stands in the heap as a tree: values as they are, data that stay, nodes of its own -/
inductive Dt where
  | val (v : V)
  | frz (d : PyData)
  | nod (k : Kd) (xs : List Dt)
mutual
inductive Ow (G H : Hp) : List Addr → V → Dt → Prop
  | val (v : V) : Ow G H [] v (.val v)
  | frz {v : V} {d : PyData} : Rp G v d → Ow G H [] v (.frz d)
  | nod {a : Addr} {k : Kd} {vs : List V} {ds : List Dt} {L : List Addr} : H a = some (k.ho vs) → OwAll G H L vs ds → a ∉ L → Ow G H (a :: L) (.ref a) (.nod k ds)
inductive OwAll (G H : Hp) : List Addr → List V → List Dt → Prop
  | nil : OwAll G H [] [] []
  | cons {L1 L2 : List Addr} {v : V} {vs : List V} {d : Dt} {ds : List Dt} : Ow G H L1 v d → OwAll G H L2 vs ds → (∀ b ∈ L1, b ∉ L2) → OwAll G H (L1 ++ L2) (v :: vs) (d :: ds)
end
def Keeps (L : List Addr) (H H' : Hp) : Prop := ∀ b ∈ L, ∀ o, H b = some o → H' b = some o
mutual
theorem Ow.mono {G G' H H' : Hp} (e : Same G G') : ∀ {L : List Addr} {v : V} {d : Dt}, Keeps L H H' → Ow G H L v d → Ow G' H' L v d
  | _, _, _, _, .val v => .val v
  | _, _, _, _, .frz r => .frz (r.mono e)
  | _, _, _, k, .nod h r n => .nod (k _ List.mem_cons_self _ h) (OwAll.mono e (fun b hb => k b (List.mem_cons_of_mem _ hb)) r) n
theorem OwAll.mono {G G' H H' : Hp} (e : Same G G') : ∀ {L : List Addr} {vs : List V} {ds : List Dt}, Keeps L H H' → OwAll G H L vs ds → OwAll G' H' L vs ds
  | _, _, _, _, .nil => .nil
  | _, _, _, k, .cons a r d => .cons (Ow.mono e (fun b hb => k b (List.mem_append_left _ hb)) a) (OwAll.mono e (fun b hb => k b (List.mem_append_right _ hb)) r) d
end
mutual
theorem Ow.there {G H : Hp} : ∀ {L : List Addr} {v : V} {d : Dt}, Ow G H L v d → ∀ b ∈ L, H b ≠ none
  | _, _, _, .val _, _, hb => nomatch hb
  | _, _, _, .frz _, _, hb => nomatch hb
  | _, _, _, .nod h r n, b, hb => by
    rcases List.mem_cons.mp hb with rfl | hb
    · exact some_ne h
    · exact OwAll.there r b hb
theorem OwAll.there {G H : Hp} : ∀ {L : List Addr} {vs : List V} {ds : List Dt}, OwAll G H L vs ds → ∀ b ∈ L, H b ≠ none
  | _, _, _, .nil, _, hb => nomatch hb
  | _, _, _, .cons a r d, b, hb => by
    rcases List.mem_append.mp hb with hb | hb
    · exact Ow.there a b hb
    · exact OwAll.there r b hb
end
theorem OwAll.len {G H : Hp} : ∀ {L : List Addr} {vs : List V} {ds : List Dt}, OwAll G H L vs ds → vs.length = ds.length
  | _, _, _, .nil => rfl
  | _, _, _, .cons _ r _ => congrArg Nat.succ r.len
theorem OwAll.snoc {G H : Hp} {L1 : List Addr} {v : V} {d : Dt} (h : Ow G H L1 v d) : ∀ {L : List Addr} {vs : List V} {ds : List Dt}, OwAll G H L vs ds → (∀ b ∈ L, b ∉ L1) → OwAll G H (L ++ L1) (vs ++ [v]) (ds ++ [d])
  | _, _, _, .nil, _ => by
    have z : OwAll G H (L1 ++ []) [v] [d] := .cons h .nil (fun _ _ z => nomatch z)
    rw [List.append_nil] at z
    exact z
  | _, _, _, .cons (L1 := La) (L2 := Lb) a r n, k => by
    have z := OwAll.cons a (OwAll.snoc h r fun b hb => k b (List.mem_append_right _ hb)) (fun b hb q => by
      rcases List.mem_append.mp q with q | q
      · exact n b hb q
      · exact k b (List.mem_append_left _ hb) q)
    rw [← List.append_assoc] at z
    exact z
theorem OwAll.app {G H : Hp} {L2 : List Addr} {ws : List V} {es : List Dt} (h : OwAll G H L2 ws es) : ∀ {L : List Addr} {vs : List V} {ds : List Dt}, OwAll G H L vs ds → (∀ b ∈ L, b ∉ L2) → OwAll G H (L ++ L2) (vs ++ ws) (ds ++ es)
  | _, _, _, .nil, _ => h
  | _, _, _, .cons (L1 := La) (L2 := Lb) a r n, k => by
    have z := OwAll.cons a (OwAll.app h r fun b hb => k b (List.mem_append_right _ hb)) (fun b hb q => by
      rcases List.mem_append.mp q with q | q
      · exact n b hb q
      · exact k b (List.mem_append_left _ hb) q)
    rw [← List.append_assoc] at z
    exact z
/-! ### trees that are data -/
mutual
inductive Dd : Dt → PyData → Prop
  | non : Dd (.val .non) .none
  | bl (b : Bool) : Dd (.val (.bl b)) (.bool b)
  | int (i : Int) : Dd (.val (.int i)) (.int i)
  | str (x : Str) : Dd (.val (.str x)) (.str x)
  | frz (d : PyData) : Dd (.frz d) d
  | lst {xs : List Dt} {ds : List PyData} : DdAll xs ds → Dd (.nod .lst xs) (.list ds)
  | tup {xs : List Dt} {ds : List PyData} : DdAll xs ds → Dd (.nod .tup xs) (.tuple ds)
inductive DdAll : List Dt → List PyData → Prop
  | nil : DdAll [] []
  | cons {x : Dt} {xs : List Dt} {d : PyData} {ds : List PyData} : Dd x d → DdAll xs ds → DdAll (x :: xs) (d :: ds)
end
mutual
/-- read in any heap that holds its nodes -/
theorem Ow.rp {G H I : Hp} (e : Same G I) : ∀ {L : List Addr} {v : V} {d : Dt} {p : PyData}, Keeps L H I → Ow G H L v d → Dd d p → Rp I v p
  | _, _, _, _, _, .val _, .non => .non
  | _, _, _, _, _, .val _, .bl b => .bl b
  | _, _, _, _, _, .val _, .int i => .int i
  | _, _, _, _, _, .val _, .str x => .str x
  | _, _, _, _, _, .frz r, .frz _ => r.mono e
  | _, _, _, _, k, .nod h r _, .lst q => .lst (k _ List.mem_cons_self _ h) (OwAll.rp e (fun b hb => k b (List.mem_cons_of_mem _ hb)) r q)
  | _, _, _, _, k, .nod h r _, .tup q => .tup (k _ List.mem_cons_self _ h) (OwAll.rp e (fun b hb => k b (List.mem_cons_of_mem _ hb)) r q)
theorem OwAll.rp {G H I : Hp} (e : Same G I) : ∀ {L : List Addr} {vs : List V} {ds : List Dt} {ps : List PyData}, Keeps L H I → OwAll G H L vs ds → DdAll ds ps → RpAll I vs ps
  | _, _, _, _, _, .nil, .nil => .nil
  | _, _, _, _, k, .cons a r _, .cons x xs => .cons (Ow.rp e (fun b hb => k b (List.mem_append_left _ hb)) a x) (OwAll.rp e (fun b hb => k b (List.mem_append_right _ hb)) r xs)
end
def oI (i : Int) : Dt := .val (.int i)
def oB (b : Bool) : Dt := .val (.bl b)
def oF {α : Type} (f : α → PyData) (x : α) : Dt := .frz (f x)
def oL {α : Type} (f : α → Dt) (xs : List α) : Dt := .nod .lst (xs.map f)
def EncO {α : Type} (f : α → Dt) (g : α → PyData) : Prop := ∀ x, Dd (f x) (g x)
theorem encO_I : EncO oI PyData.int := fun i => .int i
theorem encO_B : EncO oB PyData.bool := fun i => .bl i
theorem encO_F {α : Type} {f : α → PyData} : EncO (oF f) f := fun _ => .frz _
theorem EncO.all {α : Type} {f : α → Dt} {g : α → PyData} (h : EncO f g) : ∀ xs : List α, DdAll (xs.map f) (xs.map g)
  | [] => .nil
  | x :: xs => .cons (h x) (EncO.all h xs)
theorem encO_L {α : Type} {f : α → Dt} {g : α → PyData} (h : EncO f g) : EncO (oL f) (encL g) := fun xs => .lst (h.all xs)
theorem keeps_same {L : List Addr} {H H' : Hp} (e : Same H H') : Keeps L H H' := fun b _ o q => e b o q
theorem keeps_refl {L : List Addr} {H : Hp} : Keeps L H H := fun _ _ _ q => q
theorem keeps_mut {L : List Addr} {H H' : Hp} {m : Addr} (x : SameX m H H') (n : ∀ b ∈ L, b ≠ m) : Keeps L H H' := fun b hb o q => x b o q (n b hb)
theorem keeps_muts {L M : List Addr} {H H' : Hp} (x : SameXs M H H') (n : ∀ b ∈ L, b ∉ M) : Keeps L H H' := fun b hb o q => x b o q (n b hb)
theorem keeps_hide {L M : List Addr} {H : Hp} (n : ∀ b ∈ L, b ∉ M) : Keeps L H (hideL M H) := fun b hb o q => by
  rw [hideL_out (n b hb)]
  exact q
section
variable {α : Type} {f : α → Dt} {g : α → PyData} {G H I : Hp} {L : List Addr} {vs : List V} {xs : List α}
theorem OwAll.rpA (w : OwAll G H L vs (xs.map f)) (h : EncO f g) (e : Same G H) : RpAll H vs (xs.map g) := OwAll.rp e keeps_refl w (h.all xs)
theorem OwAll.rpH (w : OwAll G H L vs (xs.map f)) (h : EncO f g) (e : Same G I) (k : Keeps L H I) : RpAll I vs (xs.map g) := OwAll.rp e k w (h.all xs)
theorem OwAll.lenM (w : OwAll G H L vs (xs.map f)) : vs.length = xs.length := by rw [w.len, List.length_map]
theorem OwAll.snocM {L1 : List Addr} {v : V} {y : α} (w : OwAll G H L vs (xs.map f)) (h : Ow G H L1 v (f y)) (n : ∀ b ∈ L, b ∉ L1) : OwAll G H (L ++ L1) (vs ++ [v]) ((xs ++ [y]).map f) := by
  rw [List.map_append]
  exact OwAll.snoc h w n
theorem Ow.ints {a : Addr} {ys : List Int} (h : H a = some (.lst (ys.map V.int))) : Ow G H [a] (.ref a) (oL oI ys) := by
  have z : ∀ ys : List Int, OwAll G H [] (ys.map V.int) (ys.map oI) := fun ys => by
    induction ys with
    | nil => exact .nil
    | cons y r ih => exact .cons (L1 := []) (L2 := []) (.val _) ih (fun _ z => nomatch z)
  exact .nod (k := .lst) h (z ys) (fun z => nomatch z)
theorem Ow.list {a : Addr} {xs : List α} {L : List Addr} {vs : List V} (h : H a = some (.lst vs)) (w : OwAll G H L vs (xs.map f)) (n : ∀ b ∈ L, b ≠ a) : Ow G H (a :: L) (.ref a) (oL f xs) := .nod (k := .lst) h w (fun z => n a z rfl)
theorem Ow.toList {v : V} {L : List Addr} {xs : List α} (w : Ow G H L v (oL f xs)) : ∃ a vs L', v = .ref a ∧ L = a :: L' ∧ H a = some (.lst vs) ∧ OwAll G H L' vs (xs.map f) ∧ ∀ b ∈ L', b ≠ a := by
  unfold oL at w
  cases w with
  | nod h r n => exact ⟨_, _, _, rfl, rfl, h, r, fun b hb z => n (z ▸ hb)⟩
theorem OwAll.toInts : ∀ {L : List Addr} {vs : List V} {xs : List Int}, OwAll G H L vs (xs.map oI) → L = [] ∧ vs = xs.map V.int
  | _, _, [], .nil => ⟨rfl, rfl⟩
  | _, _, x :: xs, .cons a r _ => by
    obtain ⟨h1, h2⟩ := OwAll.toInts r
    cases a
    exact ⟨by rw [h1] <;> rfl, by rw [h2] <;> rfl⟩
theorem Ow.toInts {v : V} {L : List Addr} {xs : List Int} (w : Ow G H L v (oL oI xs)) : ∃ a, v = .ref a ∧ L = [a] ∧ H a = some (.lst (xs.map V.int)) := by
  obtain ⟨a, vs, L', rfl, rfl, h, r, _⟩ := w.toList
  obtain ⟨rfl, rfl⟩ := r.toInts
  exact ⟨a, rfl, rfl, h⟩
/-- the part at a place, and how a change of it alone changes the whole -/
theorem OwAll.part : ∀ {L : List Addr} {vs : List V} {ds : List Dt} {i : Nat} {d : Dt}, OwAll G H L vs ds → ds[i]? = some d → ∃ v L1, vs[i]? = some v ∧ Ow G H L1 v d ∧ (∀ b ∈ L1, b ∈ L) ∧
    ∀ H' d', (∀ b ∈ L, b ∉ L1 → ∀ o, H b = some o → H' b = some o) → Ow G H' L1 v d' → OwAll G H' L vs (ds.set i d')
  | _, _, _, _, _, .nil, h => by simp at h
  | _, _, _, 0, _, .cons (L1 := La) (L2 := Lb) a r n, h => by
    simp at h
    subst h
    refine ⟨_, La, rfl, a, fun b hb => List.mem_append_left _ hb, fun H' d' k w => ?_⟩
    exact .cons w (OwAll.mono (Same.refl G) (fun b hb => k b (List.mem_append_right _ hb) fun z => n b z hb) r) n
  | _, _, _, i + 1, _, .cons (L1 := La) (L2 := Lb) a r n, h => by
    obtain ⟨v, L1, h1, h2, h3, h4⟩ := OwAll.part (i := i) r (by simpa using h)
    refine ⟨v, L1, by simpa using h1, h2, fun b hb => List.mem_append_right _ (h3 b hb), fun H' d' k w => ?_⟩
    refine .cons (Ow.mono (Same.refl G) (fun b hb => k b (List.mem_append_left _ hb) fun z => n b hb (h3 b z)) a) (h4 H' d' (fun b hb nb => k b (List.mem_append_right _ hb) nb) w) n
/-- the same, where the part grows: its new footprint is the old one and what is new -/
theorem OwAll.part2 : ∀ {L : List Addr} {vs : List V} {ds : List Dt} {i : Nat} {d : Dt}, OwAll G H L vs ds → ds[i]? = some d → ∃ v L1, vs[i]? = some v ∧ Ow G H L1 v d ∧ (∀ b ∈ L1, b ∈ L) ∧
    (∀ H' d', (∀ b ∈ L, b ∉ L1 → ∀ o, H b = some o → H' b = some o) → Ow G H' L1 v d' → OwAll G H' L vs (ds.set i d')) ∧
    ∀ H' d' Fv L1', (∀ b ∈ L, b ∉ L1 → ∀ o, H b = some o → H' b = some o) → (∀ b ∈ L1', b ∈ L1 ++ Fv) → (∀ b ∈ Fv, b ∉ L) → Ow G H' L1' v d' → ∃ L', (∀ b ∈ L', b ∈ L ++ Fv) ∧ OwAll G H' L' vs (ds.set i d')
  | _, _, _, _, _, .nil, h => by simp at h
  | _, _, _, 0, _, .cons (L1 := La) (L2 := Lb) a r n, h => by
    simp at h
    subst h
    refine ⟨_, La, rfl, a, fun b hb => List.mem_append_left _ hb, fun H' d' k w => ?_, fun H' d' Fv L1' k s nf w => ⟨L1' ++ Lb, fun b hb => ?_, ?_⟩⟩
    · exact .cons w (OwAll.mono (Same.refl G) (fun b hb => k b (List.mem_append_right _ hb) fun z => n b z hb) r) n
    · rcases List.mem_append.mp hb with hb | hb
      · rcases List.mem_append.mp (s b hb) with q | q
        · exact List.mem_append_left _ (List.mem_append_left _ q)
        · exact List.mem_append_right _ q
      · exact List.mem_append_left _ (List.mem_append_right _ hb)
    · refine .cons w (OwAll.mono (Same.refl G) (fun b hb => k b (List.mem_append_right _ hb) fun z => n b z hb) r) fun b hb q => ?_
      rcases List.mem_append.mp (s b hb) with z | z
      · exact n b z q
      · exact nf b z (List.mem_append_right _ q)
  | _, _, _, i + 1, _, .cons (L1 := La) (L2 := Lb) a r n, h => by
    obtain ⟨v, L1, h1, h2, h3, h4, h5⟩ := OwAll.part2 (i := i) r (by simpa using h)
    refine ⟨v, L1, by simpa using h1, h2, fun b hb => List.mem_append_right _ (h3 b hb), fun H' d' k w => ?_, fun H' d' Fv L1' k s nf w => ?_⟩
    · refine .cons (Ow.mono (Same.refl G) (fun b hb => k b (List.mem_append_left _ hb) fun z => n b hb (h3 b z)) a) (h4 H' d' (fun b hb nb => k b (List.mem_append_right _ hb) nb) w) n
    · obtain ⟨L', s2, z⟩ := h5 H' d' Fv L1' (fun b hb nb => k b (List.mem_append_right _ hb) nb) s (fun b hb q => nf b hb (List.mem_append_right _ q)) w
      refine ⟨La ++ L', fun b hb => ?_, .cons (Ow.mono (Same.refl G) (fun b hb => k b (List.mem_append_left _ hb) fun z => n b hb (h3 b z)) a) z fun b hb q => ?_⟩
      · rcases List.mem_append.mp hb with hb | hb
        · exact List.mem_append_left _ (List.mem_append_left _ hb)
        · rcases List.mem_append.mp (s2 b hb) with q | q
          · exact List.mem_append_left _ (List.mem_append_right _ q)
          · exact List.mem_append_right _ q
      · rcases List.mem_append.mp (s2 b q) with y | y
        · exact n b hb y
        · exact nf b y (List.mem_append_left _ hb)
theorem OwAll.partM [Inhabited α] {k : Int} (w : OwAll G H L vs (xs.map f)) (h : -(xs.length : Int) ≤ k ∧ k < xs.length) : ∃ v L1, atI vs k = some v ∧ Ow G H L1 v (f (itD xs k)) ∧ (∀ b ∈ L1, b ∈ L) ∧
    (∀ H' y, (∀ b ∈ L, b ∉ L1 → ∀ o, H b = some o → H' b = some o) → Ow G H' L1 v (f y) → OwAll G H' L vs ((setL xs k y).map f)) ∧
    ∀ H' y Fv L1', (∀ b ∈ L, b ∉ L1 → ∀ o, H b = some o → H' b = some o) → (∀ b ∈ L1', b ∈ L1 ++ Fv) → (∀ b ∈ Fv, b ∉ L) → Ow G H' L1' v (f y) → ∃ L', (∀ b ∈ L', b ∈ L ++ Fv) ∧ OwAll G H' L' vs ((setL xs k y).map f) := by
  obtain ⟨j, e, hj⟩ := ixN_some h
  have hx := List.getElem?_eq_getElem hj
  obtain ⟨v, L1, h1, h2, h3, h4, h5⟩ := OwAll.part2 (i := j) (d := f xs[j]) w (by rw [List.getElem?_map, hx] <;> rfl)
  have ei : itD xs k = xs[j] := by
    unfold itD atI
    rw [e]
    show (xs[j]?).getD default = _
    rw [hx] <;> rfl
  refine ⟨v, L1, ?_, by rw [ei]; exact h2, h3, fun H' y q w2 => ?_, fun H' y Fv L1' q s nf w2 => ?_⟩
  · unfold atI
    rw [w.lenM, e]
    exact h1
  · have z := h4 H' (f y) q w2
    unfold setL
    rw [e, List.map_set]
    exact z
  · obtain ⟨L', s2, z⟩ := h5 H' (f y) Fv L1' q s nf w2
    refine ⟨L', s2, ?_⟩
    unfold setL
    rw [e, List.map_set]
    exact z
theorem grow_keeps {L L1 : List Addr} {m : Addr} {H H1 H2 : Hp} (e : Same H H1) (x : SameX m H1 H2) (hm : m ∈ L1) : ∀ b ∈ L, b ∉ L1 → ∀ o, H b = some o → H2 b = some o := fun b _ n o q => x b o (e b o q) (fun z => n (z ▸ hm))
theorem grow_sub {a : Addr} {L' Lr Fv : List Addr} (h : ∀ b ∈ L', b ∈ Lr ++ Fv) : ∀ b ∈ a :: L', b ∈ (a :: Lr) ++ Fv := fun b hb => by
  rcases List.mem_cons.mp hb with rfl | hb
  · exact List.mem_cons_self
  · exact List.mem_cons_of_mem _ (h b hb)
/-- the item of a turn -/
theorem OwAll.turn {i : Nat} {v : V} (w : OwAll G H L vs (xs.map f)) (h : vs[i]? = some v) : ∃ x L1, xs[i]? = some x ∧ Ow G H L1 v (f x) ∧ ∀ b ∈ L1, b ∈ L := by
  have hl := get_len h
  have e := w.lenM
  have hx := List.getElem?_eq_getElem (show i < xs.length by omega)
  obtain ⟨v2, L1, h1, h2, h3, _⟩ := OwAll.part (i := i) (d := f xs[i]) w (by rw [List.getElem?_map, hx] <;> rfl)
  rw [h] at h1
  cases h1
  exact ⟨_, L1, hx, h2, h3⟩
end
/-! ### what is owned, in pieces -/
theorem all_app {P : Addr → Prop} {L l : List Addr} (h : ∀ x ∈ L, P x) (t : ∀ x ∈ l, P x) : ∀ x ∈ L ++ l, P x := fun x hx => by
  rcases List.mem_append.mp hx with q | q
  · exact h x q
  · exact t x q
theorem nm_nil {a : Addr} : a ∉ ([] : List Addr) := fun z => nomatch z
theorem nm_cons {a m : Addr} {l : List Addr} (h : a ≠ m) (t : a ∉ l) : a ∉ m :: l := fun z => by
  rcases List.mem_cons.mp z with q | q
  · exact h q
  · exact t q
theorem nm_app {a : Addr} {L l : List Addr} (h : a ∉ L) (t : a ∉ l) : a ∉ L ++ l := fun z => by
  rcases List.mem_append.mp z with q | q
  · exact h q
  · exact t q
theorem there_ne {H : Hp} {L : List Addr} {x : Addr} (t : ∀ b ∈ L, H b ≠ none) (n : H x = none) : ∀ b ∈ L, b ≠ x := fun b hb z => t b hb (z ▸ n)
theorem new_ne {H : Hp} {L : List Addr} {x : Addr} {o : HO} (n : ∀ b ∈ L, H b = none) (h : H x = some o) : ∀ b ∈ L, b ≠ x := fun b hb z => by
  have := n b hb
  rw [z, h] at this
  cases this
theorem new_nl {H : Hp} {L L2 : List Addr} (n : ∀ b ∈ L, H b = none) (t : ∀ b ∈ L2, H b ≠ none) : ∀ b ∈ L, b ∉ L2 := fun b hb z => t b z (n b hb)
theorem nl_symm {L L2 : List Addr} (h : ∀ b ∈ L, b ∉ L2) : ∀ b ∈ L2, b ∉ L := fun b hb z => h b z hb
theorem none_of_same {H H' : Hp} {x : Addr} (e : Same H H') (n : H' x = none) : H x = none := by
  cases q : H x with
  | none => rfl
  | some o =>
    rw [e x o q] at n
    cases n
section
variable {M : List Addr} {H0 G0 G H H' : Hp} {O L : List Addr} {p m : Addr} {o : HO}
theorem Sep.h0 (S : Sep M H0 G0 G H O) {b : Addr} (hb : b ∈ O) (hM : b ∉ M) : H0 b = none := (S.ow b hb).2.2.elim (fun z => (hM z).elim) id
theorem g_nl {a : Addr} {o : HO} (h : G a = some o) (S : Sep M H0 G0 G H O) (hL : ∀ b ∈ L, b ∈ O) : ∀ b ∈ L, b ≠ a := fun b hb => (g_ne h S (hL b hb)).symm
theorem b_nl {a : Addr} {o : HO} (h : (hideL M H0) a = some o) (S : Sep M H0 G0 G H O) (hL : ∀ b ∈ L, b ∈ O) : ∀ b ∈ L, b ≠ a := fun b hb => (b_ne h S (hL b hb)).symm
/-- a whole tree that is to stay as it is -/
theorem Sep.freezeL (S : Sep M H0 G0 G H O) {O' : List Addr} (hL : ∀ b ∈ L, b ∈ O) (h0 : ∀ b ∈ L, H0 b = none) (hO : ∀ b ∈ O', b ∈ O ∧ b ∉ L) : ∃ G', Same G G' ∧ Keeps L H G' ∧ Sep M H0 G0 G' H O' := by
  have gn : ∀ b ∈ L, G b = none := fun b hb => (S.ow b (hL b hb)).1
  refine ⟨fun b => if b ∈ L then H b else G b, fun b u q => ?_, fun b hb u q => ?_, S.base, S.pm, fun b u q => ?_, fun b u q => ?_, fun b hb gb => ?_, fun a ha => ?_⟩
  · have n : b ∉ L := fun z => by
      rw [gn b z] at q
      cases q
    show (if b ∈ L then H b else G b) = _
    rw [if_neg n]
    exact q
  · show (if b ∈ L then H b else G b) = _
    rw [if_pos hb]
    exact q
  · by_cases z : b ∈ L
    · exact (if_pos z).symm.trans q
    · exact S.sG b u ((if_neg z).symm.trans q)
  · have z : b ∉ L := fun z => by
      have := S.g0 b u q
      rw [gn b z] at this
      cases this
    show (if b ∈ L then H b else G b) = _
    rw [if_neg z]
    exact S.g0 b u q
  · have z : b ∉ L := fun z => hb (h0 b z)
    show (if b ∈ L then H b else G b) = _
    rw [if_neg z]
    exact S.gn b hb gb
  · obtain ⟨h1, h2⟩ := hO a ha
    refine ⟨?_, (S.ow a h1).2⟩
    show (if a ∈ L then H a else G a) = _
    rw [if_neg h2]
    exact (S.ow a h1).1
/-- a callee hands over a list of lists of its own making -/
theorem Sep.steptree (S : Sep M H0 G0 G H O) {G' : Hp} (e : Same H H') (eG : Same G G') (sG : Same G' H') (hn : ∀ b, H b ≠ none → G b = none → G' b = none) (L : List Addr) (hL : ∀ b ∈ L, H b = none ∧ G' b = none ∧ H' b ≠ none) : Sep M H0 G0 G' H' (L ++ O) := by
  have S2 := S.step e eG sG hn
  refine ⟨S2.base, S2.pm, S2.sG, S2.g0, S2.gn, all_app (fun b hb => ⟨(hL b hb).2.1, (hL b hb).2.2, .inr (S.free (hL b hb).1)⟩) S2.ow⟩
end
theorem Rp.list_of {α : Type} {g : α → PyData} {H : Hp} {a : Addr} {vs : List V} {xs : List α} (h : H a = some (.lst vs)) (r : RpAll H vs (xs.map g)) : Rp H (.ref a) (encL g xs) := .lst h r
/-! ### repr of data -/
mutual
def nodes : PyData → Nat
  | .list xs => 1 + nodesAll xs
  | .tuple xs => 1 + nodesAll xs
  | _ => 1
def nodesAll : List PyData → Nat
  | [] => 0
  | x :: xs => nodes x + nodesAll xs
end
mutual
def smallD : PyData → Bool
  | .none => true
  | .bool _ => true
  | .int i => decide (i.natAbs < 10 ^ 19)
  | .str x => decide ((reprText x).length ≤ 20)
  | .list xs => smallAll xs
  | .tuple xs => smallAll xs
  | _ => false
def smallAll : List PyData → Bool
  | [] => true
  | x :: xs => smallD x && smallAll xs
end
theorem piled_list (ts : List Str) : (listText ts).length ≤ piled ts + 2 := by
  cases ts with
  | nil => exact Nat.le_refl 2
  | cons t r =>
    have e : (listText (t :: r)).length = (textFrom 1 ("[" ++ ("" : String) ++ t) r).length + 1 := by
      show (textFrom 0 "[" (t :: r) ++ "]").length = _
      rw [strLen_append]
      rfl
    rw [e, textFrom_length_pos r 1 _ (by decide), piled_cons, strLen_append, strLen_append]
    have h1 : (("[" : String) : Str).length = 1 := rfl
    have h2 : (("" : String) : Str).length = 0 := rfl
    omega
theorem piled_tup (ts : List Str) : (tupleText ts).length ≤ piled ts + 3 := by
  unfold tupleText
  rw [strLen_append, strLen_append]
  have h1 : (("(" : String) : Str).length = 1 := rfl
  have h2 : (((if ts.length == 1 then ",)" else ")" : String) : Str)).length ≤ 2 := by split <;> decide
  by_cases h : ts = []
  · subst h
    exact Nat.le_of_lt (by decide)
  · have := join_length_add ts h
    omega
mutual
theorem small_shown : ∀ d : PyData, smallD d = true → d.shown.length + 4 ≤ 26 * nodes d ∧ d.showable = true ∧ d.hasDict = false
  | .none, _ => ⟨by simp only [PyData.shown, nodes]; decide, by simp [PyData.showable], by simp [PyData.hasDict]⟩
  | .bool b, _ => ⟨by cases b <;> simp only [PyData.shown, nodes] <;> decide, by simp [PyData.showable], by simp [PyData.hasDict]⟩
  | .int i, h => by
    have h : i.natAbs < 10 ^ 19 := by simpa [smallD] using h
    refine ⟨?_, ?_, by simp [PyData.hasDict]⟩
    · have := int_text_length_le10 (k := 19) (by decide) h
      simp only [PyData.shown, nodes]
      rw [PySem.ofString_length]
      omega
    · simp only [PyData.showable, decide_eq_true_eq]
      have : i.natAbs < 2 ^ 64 := by omega
      rcases Nat.eq_zero_or_pos i.natAbs with z | z
      · rw [z]
        decide
      · have := (Nat.log2_lt (by omega)).mpr this
        omega
  | .str x, h => by
    have h : (reprText x).length ≤ 20 := by simpa [smallD] using h
    refine ⟨by simp only [PyData.shown, nodes]; omega, by simp [PyData.showable], by simp [PyData.hasDict]⟩
  | .list xs, h => by
    obtain ⟨h1, h2, h3⟩ := small_shownAll xs (by simpa [smallD] using h)
    refine ⟨?_, by simpa [PyData.showable] using h2, by simpa [PyData.hasDict] using h3⟩
    have := piled_list (PyData.shownAll xs)
    simp only [PyData.shown, nodes]
    omega
  | .tuple xs, h => by
    obtain ⟨h1, h2, h3⟩ := small_shownAll xs (by simpa [smallD] using h)
    refine ⟨?_, by simpa [PyData.showable] using h2, by simpa [PyData.hasDict] using h3⟩
    have := piled_tup (PyData.shownAll xs)
    simp only [PyData.shown, nodes]
    omega
  | .dict kvs, h => by simp [smallD] at h
theorem small_shownAll : ∀ ds : List PyData, smallAll ds = true → piled (PyData.shownAll ds) ≤ 26 * nodesAll ds ∧ PyData.showableAll ds = true ∧ PyData.hasDictAll ds = false
  | [], _ => ⟨by simp [PyData.shownAll, nodesAll, piled], by simp [PyData.showableAll], by simp [PyData.hasDictAll]⟩
  | d :: ds, h => by
    have h : smallD d = true ∧ smallAll ds = true := by simpa [smallAll] using h
    obtain ⟨a1, a2, a3⟩ := small_shown d h.1
    obtain ⟨b1, b2, b3⟩ := small_shownAll ds h.2
    refine ⟨?_, by simp [PyData.showableAll, a2, b2], by simp [PyData.hasDictAll, a3, b3]⟩
    simp only [PyData.shownAll, nodesAll, piled_cons]
    omega
end
/-- data that repr may show -/
def ShowOk (d : PyData) : Prop := smallD d = true ∧ nodes d ≤ 600000 ∧ d.depth ≤ 60
instance (d : PyData) : Decidable (ShowOk d) := by unfold ShowOk; infer_instance
def rRepr : List V → Hp → VK → Prop := fun xs H Q => ∃ (a : Addr) (d : PyData), xs = [.ref a] ∧ Rp H (.ref a) d ∧ ShowOk d ∧ Q (.str d.shown) H
theorem call_reprD {X : Cx} (hg : X.A.guards = some []) (hu : X.A.units + 64 < cLine) : CallR X (.builtin "repr") rRepr := by
  intro pins s σ H xs us Q I r h
  obtain ⟨a, d, rfl, rp, ⟨ok, nd, dp⟩, q⟩ := h
  obtain ⟨h1, h2, h3⟩ := small_shown d ok
  cases r with
  | cons ra rn =>
    cases rn
    cases ra
    obtain ⟨as, reads⟩ := Dp.reads I d _ _ rp.dp rfl
    refine repr_of_reads' reads h2 (PyData.noDict_hsm h3) hg (by omega) (fun _ _ e => e) (fun h' u tk k => ⟨.str d.shown, H, I.kept k, ⟨u, rfl⟩, q⟩) ?_
    show d.shown.length ≤ 2 ^ 24
    omega
/-- small data: nodes, depth -/
def Sm (n k : Nat) (d : PyData) : Prop := smallD d = true ∧ nodes d ≤ n ∧ d.depth ≤ k
theorem Sm.imp {n k n' k' : Nat} {d : PyData} (h : Sm n k d) (a : n ≤ n') (b : k ≤ k') : Sm n' k' d := ⟨h.1, Nat.le_trans h.2.1 a, Nat.le_trans h.2.2 b⟩
theorem Sm.show {n k : Nat} {d : PyData} (h : Sm n k d) (a : n ≤ 600000 := by decide) (b : k ≤ 60 := by decide) : ShowOk d := h.imp a b
theorem sm_non : Sm 1 0 .none := ⟨by simp [smallD], by simp [nodes], by simp [PyData.depth]⟩
theorem sm_bool (b : Bool) : Sm 1 0 (.bool b) := ⟨by simp [smallD], by simp [nodes], by simp [PyData.depth]⟩
theorem sm_int {i : Int} (h : -10000000000000000000 < i ∧ i < 10000000000000000000) : Sm 1 0 (.int i) := ⟨by simp only [smallD, decide_eq_true_eq]; omega, by simp [nodes], by simp [PyData.depth]⟩
theorem sm_all {α : Type} {f : α → PyData} {n k : Nat} : ∀ {xs : List α}, (∀ x ∈ xs, Sm n k (f x)) → smallAll (xs.map f) = true ∧ nodesAll (xs.map f) ≤ xs.length * n ∧ PyData.depthAll (xs.map f) ≤ k
  | [], _ => ⟨by simp [smallAll], by simp [nodesAll], by simp [PyData.depthAll]⟩
  | x :: xs, h => by
    obtain ⟨a1, a2, a3⟩ := h x List.mem_cons_self
    obtain ⟨b1, b2, b3⟩ := sm_all fun y hy => h y (List.mem_cons_of_mem _ hy)
    refine ⟨by simp [smallAll, a1, b1], ?_, ?_⟩
    · simp only [List.map_cons, nodesAll, List.length_cons, Nat.succ_mul]
      omega
    · simp only [List.map_cons, PyData.depthAll]
      omega
theorem sm_L {α : Type} {f : α → PyData} {n k m : Nat} {xs : List α} (h : ∀ x ∈ xs, Sm n k (f x)) (hm : xs.length ≤ m) : Sm (1 + m * n) (k + 1) (encL f xs) := by
  obtain ⟨a1, a2, a3⟩ := sm_all h
  refine ⟨by simp [encL, smallD, a1], ?_, ?_⟩
  · have := Nat.mul_le_mul_right n hm
    simp only [encL, nodes]
    omega
  · simp only [encL, PyData.depth]
    omega
theorem sm_ints {xs : List Int} {m : Nat} (h : ∀ x ∈ xs, -10000000000000000000 < x ∧ x < 10000000000000000000) (hm : xs.length ≤ m) : Sm (1 + m * 1) 1 (encL PyData.int xs) := sm_L (fun x hx => sm_int (h x hx)) hm
theorem sm_T2 {α β : Type} {f : α → PyData} {g : β → PyData} {n k m j : Nat} {p : α × β} (h1 : Sm n k (f p.1)) (h2 : Sm m j (g p.2)) : Sm (1 + n + m) (max k j + 1) (encT2 f g p) := by
  obtain ⟨a1, a2, a3⟩ := h1
  obtain ⟨b1, b2, b3⟩ := h2
  refine ⟨by simp [encT2, smallD, smallAll, a1, b1], ?_, ?_⟩
  · simp only [encT2, nodes, nodesAll]
    omega
  · simp only [encT2, PyData.depth, PyData.depthAll]
    omega
theorem sm_T3 {α β γ : Type} {f : α → PyData} {g : β → PyData} {h : γ → PyData} {n k m j l i : Nat} {p : α × β × γ} (h1 : Sm n k (f p.1)) (h2 : Sm m j (g p.2.1)) (h3 : Sm l i (h p.2.2)) : Sm (1 + n + m + l) (max k (max j i) + 1) (encT3 f g h p) := by
  obtain ⟨a1, a2, a3⟩ := h1
  obtain ⟨b1, b2, b3⟩ := h2
  obtain ⟨c1, c2, c3⟩ := h3
  refine ⟨by simp [encT3, smallD, smallAll, a1, b1, c1], ?_, ?_⟩
  · simp only [encT3, nodes, nodesAll]
    omega
  · simp only [encT3, PyData.depth, PyData.depthAll]
    omega
end Vx
namespace Vx
open PySem PySem.Spec PyProof.Rows L2
theorem new_ne2 {H : Hp} {L : List Addr} {x : Addr} (n : ∀ b ∈ L, H b = none) (h : H x ≠ none) : ∀ b ∈ L, b ≠ x := fun b hb z => h (z ▸ n b hb)
theorem upd_tree {α : Type} {f : α → Dt} {G H H' : Hp} {L L1 : List Addr} {vs : List V} {xs : List α} {k : Int} {v : V} {m : Addr} {y : α} (up : ∀ H' y, (∀ b ∈ L, b ∉ L1 → ∀ o, H b = some o → H' b = some o) → Ow G H' L1 v (f y) → OwAll G H' L vs ((setL xs k y).map f)) (x : SameX m H H') (hm : m ∈ L1) (w : Ow G H' L1 v (f y)) :
    OwAll G H' L vs ((setL xs k y).map f) := up H' y (fun c _ n o q => x c o q (fun z => n (z ▸ hm))) w
theorem Ow.toFrz {α : Type} {f : α → PyData} {G H : Hp} {L : List Addr} {v : V} {x : α} (w : Ow G H L v (oF f x)) : L = [] ∧ Rp G v (f x) := by
  unfold oF at w
  cases w with
  | frz r => exact ⟨rfl, r⟩
section
variable {α : Type} {f : α → Dt} {G H : Hp} {L : List Addr} {vs : List V} {xs : List α}
theorem OwAll.pin {i : Nat} {v : V} {x : α} (w : OwAll G H L vs (xs.map f)) (h : vs[i]? = some v) (hx : xs[i]? = some x) : ∃ L1, Ow G H L1 v (f x) ∧ ∀ b ∈ L1, b ∈ L := by
  obtain ⟨y, L1, h1, h2, h3⟩ := OwAll.turn w h
  rw [hx] at h1
  cases h1
  exact ⟨L1, h2, h3⟩
theorem OwAll.pinInts {i : Nat} {b : Addr} {xs : List (List Int)} {x : List Int} (w : OwAll G H L vs (xs.map (oL oI))) (h : vs[i]? = some (.ref b)) (hx : xs[i]? = some x) : H b = some (.lst (x.map V.int)) ∧ b ∈ L := by
  obtain ⟨L1, w1, h1⟩ := OwAll.pin w h hx
  obtain ⟨c, e, rfl, h2⟩ := Ow.toInts w1
  cases e
  exact ⟨h2, h1 _ List.mem_cons_self⟩
end
end Vx
namespace Vx
open PySem PySem.Spec PyProof.Rows L2
theorem lookup_relab {c : Str → Bool} {y : Str} : ∀ l : List (Str × NameKind), (l.lookup y = some .cell ∨ l.lookup y = some .free) →
    ((l.map fun (n, k) => if (k == .free && c n) then (n, NameKind.cell) else (n, k)).lookup y = some .cell ∨ (l.map fun (n, k) => if (k == .free && c n) then (n, NameKind.cell) else (n, k)).lookup y = some .free)
  | [], h => by simp at h
  | (n, k) :: r, h => by
    rw [List.map_cons]
    dsimp only
    by_cases e : y == n
    · have hk : k = .cell ∨ k = .free := by
        rw [List.lookup_cons, e] at h
        simpa using h
      by_cases q : (k == .free && c n) = true
      · left
        rw [if_pos q, List.lookup_cons, e]
      · rw [if_neg q, List.lookup_cons, e]
        simpa using hk
    · have e : (y == n) = false := by simpa using e
      rw [List.lookup_cons, e] at h
      have ih := lookup_relab (c := c) r h
      by_cases q : (k == .free && c n) = true
      · rw [if_pos q, List.lookup_cons, e]
        exact ih
      · rw [if_neg q, List.lookup_cons, e]
        exact ih
theorem blk_relabel {N : List Str} {sc scope : Scope} {env : Env} {own : List (Str × Nat)} (h : BlkOk N sc scope own) : BlkOk N (relabel sc env) scope own := by
  refine ⟨h.kind, h.uniq, h.ix, fun y hy e => ?_, h.own⟩
  have z := lookup_relab (c := fun n => env.scope.kind == .function && env.kindOf n == some .cell) (y := y.1) sc.names (h.free y hy e)
  unfold relabel
  simpa only [Bool.and_assoc] using z
end Vx
namespace Vx
open PySem PySem.Spec PyProof.Rows L2
theorem FnG.low {P : Program} {w : World} {K : PySem.W.Frag} {mg : Str → Option Value} {base : Heap} {cx : CXT} {j k : Nat} {f : Addr} {fd : FuncData} {ps : List Str} {sp : Sp} (F : FnG P w K mg base cx j f fd ps sp) (h : j ≤ k) : FnG P w K mg base cx k f fd ps sp := ⟨F.len, fun A o s H a us vs Q E r => F.run A o s H a us vs Q E (r.low h)⟩
/-! ### a local name that holds one of several defs -/
structure HeldX (P : Program) (w : World) (K : PySem.W.Frag) (mg : Str → Option Value) (base : Heap) (k n : Nat) (f : Addr) (sp : Sp) : Prop where
  ex : ∃ (fd : FuncData) (ps : List Str), FnG P w K mg base (L2.CX P w) k f fd ps sp ∧ PySem.W.keepIn K (.ref f) = true ∧ Bnd K fd ps n [] (fun vs _ => vs)
theorem HeldX.of {P : Program} {w : World} {K : PySem.W.Frag} {mg : Str → Option Value} {base : Heap} {j k n : Nat} {x : Str} {sp : Sp} {pats : List Pat} {a : Addr} (c : CalX P w K mg base j x sp pats) (hx : mg x = some (.ref a)) (hp : (n, [], fun vs _ => vs) ∈ pats) (hj : j ≤ k) : HeldX P w K mg base k n a sp := by
  obtain ⟨f, fd, ps, F, hm, kp, b⟩ := c.ex
  rw [hx] at hm
  injection hm with hm
  injection hm with hm
  subst hm
  exact ⟨fd, ps, F.low hj, kp, b _ hp⟩
def tCallF (i n : Nat) (L : List (Addr × Sp)) (W : WX) (t : TA) : TE := fun σ H Q => ∃ f sp, σ[i]? = some (some (.ref f)) ∧ (f, sp) ∈ L ∧ t σ H fun vs H1 => vs.length = n ∧ ([] : List V).length = 0 ∧ sp vs H1 Q (WE W σ)
theorem vx_callF {X : Cx} {k j i n : Nat} {x : Str} {p pos : Pos} {e : Expr} {es : List Expr} {t : TA} {W : WX} (L : List (Addr × Sp)) (A : ∀ q ∈ L, HeldX X.prog X.w X.K X.mg X.base k n q.1 q.2) (hr : RoomG j X.A) (hk : k ≤ j) (tkW : Takes X W) (hN : X.N[i]? = some x) (hv : Vis X.env.scope x) (ha : PA X (e :: es) t)
    (hdb : (x == ("__debug__" : Str)) = false := by decide) (hcd : (x == ("__classdict__" : Str)) = false := by decide) (he : starEach (e :: es) X.env = (false, eval e X.env) :: starEach es X.env := by rfl) (hpl : (backTo pos (starEach es X.env)).any (·.1) = false := by rfl) :
    PE X (.Call (.Name x p) (e :: es) [] pos) (tCallF i n L W t) := by
  constructor
  intro pins s σ H Q I h
  obtain ⟨f, sp, slot, mem, rest⟩ := h
  obtain ⟨fd, ps, F, kp, b⟩ := (A _ mem).ex
  refine wpAny_Call_Name_kw (thn ((pe_var (pos := p) hN hv hdb hcd).run pins s σ H (fun v H1 => v = .ref f ∧ H1 = H) I ⟨.ref f, slot, rfl, rfl⟩) ?_)
  rintro u s1 ⟨v, H1, I1, r1, rfl, rfl⟩
  cases r1
  refine PySem.W.callWith_K (h₀ := X.base) I.ok.mod.kin kp (thn (ha.run pos pins s1 σ _ _ I1 rest) ?_) he hpl
  rintro us s2 ⟨vs, H2, I2, r, l1, l2, q⟩
  exact ⟨I2.kIn, run_X (us := us) (ws := []) (zs := []) F (hr.low hk) b tkW I2 r .nil l1 l2 q⟩
/-! ### the least of a list, the place of an item -/
def minL : List Int → Int
  | [] => 0
  | [x] => x
  | x :: y :: r => if x ≤ minL (y :: r) then x else minL (y :: r)
theorem minL_spec : ∀ (xs : List Int), xs ≠ [] → minL xs ∈ xs ∧ ∀ y ∈ xs, minL xs ≤ y
  | [], h => absurd rfl h
  | [x], _ => ⟨List.mem_cons_self, fun y hy => by rw [List.mem_singleton.mp hy]; exact Int.le_refl x⟩
  | x :: y :: r, _ => by
    obtain ⟨h1, h2⟩ := minL_spec (y :: r) (fun z => nomatch z)
    unfold minL
    split
    · refine ⟨List.mem_cons_self, fun z hz => ?_⟩
      rcases List.mem_cons.mp hz with rfl | hz
      · exact Int.le_refl _
      · have := h2 z hz
        omega
    · refine ⟨List.mem_cons_of_mem _ h1, fun z hz => ?_⟩
      rcases List.mem_cons.mp hz with rfl | hz
      · omega
      · exact h2 z hz
def maxL (xs : List Int) : Int := -(minL (xs.map fun x => -x))
theorem maxL_spec (xs : List Int) (h : xs ≠ []) : maxL xs ∈ xs ∧ ∀ y ∈ xs, y ≤ maxL xs := by
  obtain ⟨h1, h2⟩ := minL_spec (xs.map fun x => -x) (by simpa using h)
  obtain ⟨z, hz, e⟩ := List.mem_map.mp h1
  unfold maxL
  refine ⟨by rw [← e, Int.neg_neg]; exact hz, fun y hy => ?_⟩
  have := h2 _ (List.mem_map_of_mem hy)
  omega
section
variable {X : Cx} {K : PySem.W.Frag}
def rMinL (K : PySem.W.Frag) : List V → Hp → VK → Prop := fun vs H Q => ∃ (a : Addr) (ns : List Int), vs = [V.ref a] ∧ SqL K H a (ns.map V.int) ∧ ns ≠ [] ∧ Q (.int (minL ns)) H
def rMaxL (K : PySem.W.Frag) : List V → Hp → VK → Prop := fun vs H Q => ∃ (a : Addr) (ns : List Int), vs = [V.ref a] ∧ SqL K H a (ns.map V.int) ∧ ns ≠ [] ∧ Q (.int (maxL ns)) H
theorem cr_minL (hc : X.calm = true) (hK : X.K = K := by rfl) : CallR X (.builtin "min") (rMinL K) := by
  subst hK
  intro pins s σ H vs us Q I r h
  obtain ⟨a, ns, rfl, hs, hn, q⟩ := h
  refine cr_min hc pins s σ H _ us Q I r ⟨a, ns, rfl, hs, List.length_pos_iff.mpr hn, fun m hm hle => ?_⟩
  obtain ⟨h1, h2⟩ := minL_spec ns hn
  have e : m = minL ns := Int.le_antisymm (by have := hle _ h1; omega) (h2 m hm)
  rw [e]
  exact q
theorem cr_maxL (hc : X.calm = true) (hK : X.K = K := by rfl) : CallR X (.builtin "max") (rMaxL K) := by
  subst hK
  intro pins s σ H vs us Q I r h
  obtain ⟨a, ns, rfl, hs, hn, q⟩ := h
  refine cr_max hc pins s σ H _ us Q I r ⟨a, ns, rfl, hs, List.length_pos_iff.mpr hn, fun m hm hle => ?_⟩
  obtain ⟨h1, h2⟩ := maxL_spec ns hn
  have e : m = maxL ns := Int.le_antisymm (h2 m hm) (by have := hle _ h1; omega)
  rw [e]
  exact q
end
end Vx
namespace Vx
open PySem PySem.Spec PyProof.Rows L2
def idxL (ns : List Int) (i : Int) : Int := (ns.idxOf i : Nat)
def rIndexI (K : PySem.W.Frag) : V → List V → Hp → VK → Prop := fun x xs H Q => ∃ (a : Addr) (ns : List Int) (i : Int), x = V.ref a ∧ xs = [.int i] ∧ SqL K H a (ns.map V.int) ∧ i ∈ ns ∧ Q (.int (idxL ns i)) H
theorem mt_indexI {X : Cx} {K : PySem.W.Frag} (hK : X.K = K := by rfl) : MtR X "list.index" (rIndexI K) := by
  subst hK
  intro pins s σ H x xs v us Q I rx rxs h
  obtain ⟨a, ns, i, rfl, rfl, hs, hi, q⟩ := h
  have hl := List.idxOf_lt_length_of_mem hi
  refine mt_index pins s σ H _ _ v us Q I rx rxs ⟨a, _, .int i, ns.idxOf i, .int i, rfl, rfl, hs, rfl, flat_ints ns, ?_, by simp [eqV], fun m z hm hz => ?_, q⟩
  · rw [List.getElem?_map, List.getElem?_eq_getElem hl, List.getElem_idxOf hl] <;> rfl
  · rw [List.getElem?_map] at hz
    cases e : ns[m]? with
    | none => rw [e] at hz; cases hz
    | some y =>
      rw [e] at hz
      cases hz
      have hml : m < ns.length := by omega
      have hy : ns[m] = y := by
        rw [List.getElem?_eq_getElem hml] at e
        exact Option.some.inj e
      have := List.not_of_lt_findIdx (p := (· == i)) (xs := ns) (i := m) hm
      simp only [beq_iff_eq, hy] at this
      simp [eqV, this]
theorem cW_aftgo {σ ρ τ : Type} {s : σ} {kr : ρ → Rx τ} {k : σ → Rx τ} {K : τ → Prop} {E : Nat → Prop} (h : cW ((Lp.go s : Lp σ ρ).aft kr k) K E) : cW (k s) K E := h
end Vx
namespace Vx
open PySem PySem.Spec PyProof.Rows L2
/-! ### a truth value or a number beside a number -/
def Bi.num : Bi → Int
  | .b x => if x then 1 else 0
  | .n i => i
def Bi.dat : Bi → PyData
  | .b x => .bool x
  | .n i => .int i
section
variable {X : Cx}
def rEqBI : R2 := fun x y H Q => ∃ (b : Bi) (i : Int), x = biV b ∧ y = .int i ∧ Q (.bl (decide (b.num = i))) H
def rNeBI : R2 := fun x y H Q => ∃ (b : Bi) (i : Int), x = biV b ∧ y = .int i ∧ Q (.bl (!decide (b.num = i))) H
theorem eqv_bi (b : Bi) (i : Int) : PyData.eqv b.dat (.int i) = decide (b.num = i) := by
  cases b with
  | b x => cases x <;> (rw [Bool.eq_iff_iff]; simp [Bi.dat, Bi.num, PyData.eqv])
  | n j =>
    rw [Bool.eq_iff_iff]
    simp only [Bi.dat, Bi.num, PyData.eqv, beq_iff_eq]
    exact decide_eq_true_iff.symm
theorem dp_bi {K : PySem.W.Frag} {H : Hp} : ∀ b : Bi, Dp K H (biV b) b.dat
  | .b x => .bl x
  | .n i => .int i
theorem shaped_bi : ∀ b : Bi, SeqAt.shaped b.dat = true
  | .b x => by unfold SeqAt.shaped; simp [Bi.dat, PyData.canLay0, PyData.depth]
  | .n i => by unfold SeqAt.shaped; simp [Bi.dat, PyData.canLay0, PyData.depth]
theorem op_eqBI (hu : X.A.units + 64 < cLine) : OpR X (compareOp .Eq) rEqBI := by
  intro pins s σ H x y v u Q I rx ry h
  obtain ⟨b, i, rfl, rfl, q⟩ := h
  exact op_eqD hu pins s σ H _ _ v u Q I rx ry ⟨b.dat, .int i, dp_bi b, .int i, shaped_bi b, shaped_bi (.n i), by rw [eqv_bi]; exact q⟩
theorem op_neBI (hu : X.A.units + 64 < cLine) : OpR X (compareOp .NotEq) rNeBI := by
  intro pins s σ H x y v u Q I rx ry h
  obtain ⟨b, i, rfl, rfl, q⟩ := h
  exact op_neD hu pins s σ H _ _ v u Q I rx ry ⟨b.dat, .int i, dp_bi b, .int i, shaped_bi b, shaped_bi (.n i), by rw [eqv_bi]; exact q⟩
end
end Vx
namespace Vx
open PySem PySem.Spec PyProof.Rows L2
/-! ### == of own objects by an own __eq__ that never raises -/
section
variable {X : Cx} {k j : Nat}
def rEqX (C : Addr) (n mm : Nat) (sp : Sp) (g : List V → List V → List V) : R2 := fun x y H Q => ∃ (a b dx dy : Addr) (fs gs : List (Str × V)), x = .ref a ∧ y = .ref b ∧ H a = some (.ins C dx fs) ∧ H b = some (.ins C dy gs) ∧ 2 = n ∧ 0 = mm ∧ sp (g [x, y] []) H (fun v H' => (∃ r, v = .bl r) ∧ Q v H') E0
theorem op_eqX {C : Addr} {sp : Sp} {pats : List Pat} (c : MetX X.prog X.w X.K X.mg X.base k C "__eq__" sp pats) (pt : Pat) (hpt : pt ∈ pats) (hr : RoomG j X.A) (hk : k ≤ j) (hks : pt.2.1 = [] := by rfl) : OpR X (compareOp .Eq) (rEqX C pt.1 pt.2.1.length sp pt.2.2) := by
  intro pins s σ H x y v u Q I rx ry hq
  obtain ⟨a, b, dx, dy, fs, gs, rfl, rfl, ha, hb', l1, l2, q⟩ := hq
  obtain ⟨f, fd, ps, hc, hm, F, bb⟩ := c.ex
  cases rx
  cases ry
  obtain ⟨mA, J, _⟩ := ins_get I.hok ha
  obtain ⟨mB, J', _⟩ := ins_get I.hok hb'
  obtain ⟨od, J, _⟩ := J.look
  obtain ⟨od', J', _⟩ := J'.look
  obtain ⟨m, hF⟩ := I.fr
  have hz := run_X (us := [.ref a, .ref b]) (vs := [.ref a, .ref b]) (ws := []) (zs := []) F (hr.low hk) (bb pt hpt) (takes0 (X := X)) I (.cons rfl (.cons rfl .nil)) .nil l1 l2 q
  rw [hks] at hz
  show wpAny (model X.prog X.w) X.A (richCompare .Eq (.ref a) (.ref b)) (EP X pins σ Q) X.xe s
  refine PySem.W.cmp_K (op := .Eq) (tb := .ref C) (hr.low hk).toRoom.units0 hF I.ok.mod.kin J J'.type (by simp [PySem.W.notFirst]) hm.at_ hm.fn ?_
  refine wpAny_mono hz (fun r s' z => ?_) fun _ _ e => e
  obtain ⟨w, H', I', rw', ⟨⟨q1, rfl⟩, q2⟩⟩ := z
  cases rw'
  exact ⟨V.bl q1, H', I', rfl, q2⟩
end
end Vx
namespace Vx
open PySem PySem.Spec PyProof.Rows L2
/-! ### isinstance of the exception in hand: a built-in class, a tuple of classes -/
theorem kit_blt {K : PySem.W.Frag} {D : Addr} {T : String} {b : Bool} (h : PySem.W.subIn K (.ref D) (.type T) = some b) (h0 : PySem.W.kitMeta T = true := by decide +kernel) : PySem.W.kitOne K (.ref D) (.type T) = some b := by
  unfold PySem.W.kitOne
  rw [if_neg (show ¬ (Value.ref D == Value.type T) = true from fun z => nomatch (show false = true from z))]
  show (if PySem.W.kitMeta T = true then PySem.W.subIn K (.ref D) (.type T) else none) = some b
  rw [if_pos h0, h]
def rIsXB (K : PySem.W.Frag) (a : Addr) (cls : Value) (d : Option Addr) : List V → Hp → VK → Prop := fun xs H Q => ∃ (D : Addr) (T : String) (b : Bool), cls = .ref D ∧ d = none ∧ ExcC K D ∧ xs = [.ref a, .ty T] ∧ PySem.W.kitOne K (.ref D) (.type T) = some b ∧ Q (.bl b) H
theorem call_isXB {X : Cx} {K : PySem.W.Frag} {a : Addr} {cls : Value} {d : Option Addr} {oe : Obj} {pn : List (Addr × Obj)} (hz : Zc cls d oe) (hf : ∃ vs, oe.data = .fields vs) (hK : X.K = K := by rfl) : CallR (X.suite a ((a, oe) :: pn)) (.builtin "isinstance") (rIsXB K a cls d) := by
  subst hK
  intro pins s σ H xs us Q I r h
  obtain ⟨D, T, b, rfl, rfl, c, rfl, e, q⟩ := h
  exact call_isE c hz hf pins s σ H _ us Q I r ⟨_, _, b, rfl, fun u z => z, e, q⟩
def rIsXT (K : PySem.W.Frag) (a : Addr) (cls : Value) (d : Option Addr) : List V → Hp → VK → Prop := fun xs H Q => ∃ (D tp : Addr) (cs : List V) (ws : List Value) (b : Bool), cls = .ref D ∧ d = none ∧ ExcC K D ∧ xs = [.ref a, .ref tp] ∧ H tp = some (.tup cs) ∧ Paired ClsV cs ws ∧ PySem.W.kitAny K (.ref D) ws = some b ∧ Q (.bl b) H
theorem call_isXT {X : Cx} {K : PySem.W.Frag} {a : Addr} {cls : Value} {d : Option Addr} {oe : Obj} {pn : List (Addr × Obj)} (hz : Zc cls d oe) (hf : ∃ vs, oe.data = .fields vs) (hK : X.K = K := by rfl) : CallR (X.suite a ((a, oe) :: pn)) (.builtin "isinstance") (rIsXT K a cls d) := by
  subst hK
  intro pins s σ H xs us Q I r h
  obtain ⟨D, tp, cs, ws, b, rfl, rfl, C, rfl, hT, k, e, q⟩ := h
  cases r with
  | cons rx rr =>
    cases rr with
    | cons rt rr =>
      cases rr
      cases rx
      cases rt
      obtain ⟨hget, _⟩ := I.pin (a, oe) (List.mem_append.mpr (.inl List.mem_cons_self))
      obtain ⟨vs, hv⟩ := hf
      have J : PySem.W.InstAt s.heap a oe D none := by
        obtain ⟨oc, od, oda, osl⟩ := oe
        obtain ⟨h1, h2⟩ := hz
        dsimp only at h1 h2 hv
        subst h1 h2 hv
        exact ⟨hget, rfl, rfl, trivial⟩
      obtain ⟨_, its, rv, o, h1, h2, n, h3⟩ := (show ObjOk X.prog X.w H s.heap tp (.tup cs) from I.hok tp _ hT)
      have e3 := ClsV.all k rv
      subst e3
      obtain ⟨oc, od, dt, sl⟩ := o
      simp only at h2 h3
      subst h2 h3
      exact PySem.W.kia_tup (PySem.W.handS_kitx_exc C.hg C.hk C.hs C.hd C.ha C.hn C.ht C.hm) I.kIn J h1 e (fun z => nomatch z) fun tk => ⟨.bl b, H, I.kept (t' := tk) fun _ _ z => z, rfl, q⟩
theorem kit_self {K : PySem.W.Frag} {t : Value} (h : (t == t) = true := by simp) : PySem.W.kitOne K t t = some true := by
  unfold PySem.W.kitOne
  rw [if_pos h]
/-- what a class must say, so that isinstance asks its objects rightly -/
structure IsiC (K : PySem.W.Frag) (C : Addr) : Prop where
  ha : PySem.W.findIn K (.ref C) "__class__" = some (some (.builtin "object.__class__"))
  hn : PySem.W.specialIn K (.builtin "object.__class__") "__get__" = some (some (.builtin "getset_descriptor.__get__"))
  ht : PySem.W.takesIn K (.builtin "object.__class__") = some true
  hm : PySem.W.mroIn K C (.type "object") = some true
theorem tyX_ins {K : PySem.W.Frag} {H : Hp} {a C dx : Addr} {fs : List (Str × V)} (e : H a = some (.ins C dx fs)) (cl : Cls K C) (c : IsiC K C) : TyX K H (.ref a) (.ref C) := .base (.ins e cl c.ha c.hn c.ht c.hm)
end Vx
namespace Vx
open PySem PySem.Spec PyProof.Rows L2
theorem op_notTrue {X : Cx} : OpR X (compareOp .IsNot) (fun x y H Q => ∃ b : Bool, x = .bl b ∧ y = .bl true ∧ Q (.bl (!b)) H) := by
  intro pins s σ H x y v u Q I rx ry h
  obtain ⟨b, rfl, rfl, q⟩ := h
  cases rx
  cases ry
  show wpAny (model X.prog X.w) X.A (compareOp .IsNot (.bool b) (.bool true)) (EP X pins σ Q) X.xe s
  have e : compareOp .IsNot (.bool b) (.bool true) = pure (.bool (!b)) := by cases b <;> rfl
  rw [e]
  exact wpAny_pure ⟨.bl (!b), H, I, rfl, q⟩
end Vx
/-! # zip of any number of lists, the lists in a list -/
namespace Vz
open PySem PySem.Spec PyProof.Rows L2
/-- the iterators stand at n0, n0 + 1, .., behind them the tuple of iterators, the owned tuple, the zip itself -/
structure ZS (n0 : Nat) (ls : List Addr) (i : Nat) (h : Heap) : Prop where
  z : ∃ (x0 : Value) (f : Bool), (x0 = .none ∨ ∃ T : Nat, x0 = rawInt T) ∧ h.get? (n0 + ls.length + 2) = some { cls := .type "zip", dict := none, data := .fields #[x0, .bool f, .bool false, .ref (n0 + ls.length), .ref (n0 + ls.length + 1)], slots := #[] }
  ti : h.get? (n0 + ls.length) = some { cls := .type "tuple", data := .seq ((List.range ls.length).map fun j => Value.ref (n0 + j)).toArray }
  to : ∃ vs : List Value, vs.length = ls.length ∧ h.get? (n0 + ls.length + 1) = some { cls := .type "tuple", data := .seq vs.toArray }
  its : ∀ (j : Nat) (l : Addr), ls[j]? = some l → h.IsListIter (n0 + j) l i
def Out (n0 n c : Nat) : Prop := c < n0 ∨ n0 + n + 2 < c
section
variable {prog : Program} {w : World} {A : Around} {E : Value → Shared → Prop} {s : Shared}
/-- within a free turn, k iterators having moved on -/
structure FS (n0 : Nat) (ls : List Addr) (us : List Value) (i : Nat) (f : Bool) (h0 : Heap) (k : Nat) (h : Heap) : Prop where
  sz : h.objs.size = h0.objs.size
  out : ∀ c : Nat, Out n0 ls.length c → h.get? c = h0.get? c
  z : h.get? (n0 + ls.length + 2) = some { cls := .type "zip", dict := none, data := .fields #[.ellipsis, .bool f, .bool false, .ref (n0 + ls.length), .ref (n0 + ls.length + 1)], slots := #[] }
  ti : h.get? (n0 + ls.length) = some { cls := .type "tuple", data := .seq ((List.range ls.length).map fun j => Value.ref (n0 + j)).toArray }
  to : ∃ vs : List Value, vs.length = ls.length ∧ vs.take k = us.take k ∧ h.get? (n0 + ls.length + 1) = some { cls := .type "tuple", data := .seq vs.toArray }
  its : ∀ (j : Nat) (l : Addr), ls[j]? = some l → h.IsListIter (n0 + j) l (if j < k then i + 1 else i)
theorem nn {a b : Nat} (h : a ≠ b) : @Ne Addr a b := h
theorem iter_of {h h' : Heap} {a l : Addr} {i : Nat} (x : h.IsListIter a l i) (e : h'.get? a = h.get? a) : h'.IsListIter a l i := x.at fun o q => by rw [e]; exact q
theorem list_of {h h' : Heap} {a : Addr} {items : Array Value} (x : h.IsList a items) (e : h'.get? a = h.get? a) : h'.IsList a items := x.at fun o q => by rw [e]; exact q
theorem take_set {us vs : List Value} {k : Nat} {u : Value} (hl : vs.length = us.length) (ht : vs.take k = us.take k) (hu : us[k]? = some u) : (vs.set k u).take (k + 1) = us.take (k + 1) := by
  have hk : k < us.length := (List.getElem?_eq_some_iff.mp hu).1
  apply List.ext_getElem?
  intro j
  by_cases hj : j < k + 1
  · rw [List.getElem?_take_of_lt hj, List.getElem?_take_of_lt hj]
    by_cases e : j = k
    · subst e
      rw [List.getElem?_set_self (by omega), hu]
    · rw [List.getElem?_set_ne (fun z => e z.symm)]
      have := congrArg (fun l => l[j]?) ht
      simpa [List.getElem?_take_of_lt (show j < k by omega)] using this
  · rw [List.getElem?_take_eq_none (by omega), List.getElem?_take_eq_none (by omega)]
/-- one step of a free turn -/
theorem FS.step {n0 : Nat} {ls : List Addr} {us : List Value} {i k : Nat} {f : Bool} {h0 h h2 h3 : Heap} {u : Value} (F : FS n0 ls us i f h0 k h) (hk : k < ls.length) (hl : us.length = ls.length) (hu : us[k]? = some u) {l : Addr} (hll : ls[k]? = some l)
    (h2i : h2.IsListIter (n0 + k) l (i + 1)) (s2 : Heap.SameBut (n0 + k) h h2) {vs : List Value} (hvl : vs.length = ls.length) (hvt : vs.take k = us.take k) (s3 : Heap.SameBut (n0 + ls.length + 1) h2 h3)
    (e3 : h3.get? (n0 + ls.length + 1) = some { cls := .type "tuple", data := .seq (vs.set k u).toArray }) : FS n0 ls us i f h0 (k + 1) h3 := by
  refine ⟨by rw [s3.1, s2.1, F.sz], fun c hc => ?_, ?_, ?_, ⟨vs.set k u, by rw [List.length_set, hvl], take_set (by rw [hvl, hl]) hvt hu, e3⟩, fun j l' hj => ?_⟩
  · have h1 : (c : Nat) ≠ n0 + ls.length + 1 := by unfold Out at hc; omega
    have h2 : (c : Nat) ≠ n0 + k := by unfold Out at hc; omega
    rw [s3.2 c h1, s2.2 c h2, F.out c hc]
  · rw [s3.2 _ (nn (by omega)), s2.2 _ (nn (by omega))]; exact F.z
  · rw [s3.2 _ (nn (by omega)), s2.2 _ (nn (by omega))]; exact F.ti
  · have hjl : j < ls.length := (List.getElem?_eq_some_iff.mp hj).1
    by_cases e : j = k
    · subst e
      rw [hll] at hj
      cases hj
      rw [if_pos (by omega)]
      exact iter_of h2i (s3.2 _ (nn (by omega)))
    · have := F.its j l' hj
      have q : h3.get? (n0 + j) = h.get? (n0 + j) := by rw [s3.2 _ (nn (by omega)), s2.2 _ (nn (by omega))]
      by_cases hlt : j < k
      · rw [if_pos hlt] at this
        rw [if_pos (by omega)]
        exact iter_of this q
      · rw [if_neg hlt] at this
        rw [if_neg (by omega)]
        exact iter_of this q
/-- within a turn whose tuple is still out -/
structure HS (n0 : Nat) (ls : List Addr) (i : Nat) (x0 : Value) (f : Bool) (h0 : Heap) (k : Nat) (h : Heap) : Prop where
  sz : h.objs.size = h0.objs.size
  out : ∀ c : Nat, Out n0 ls.length c → h.get? c = h0.get? c
  z : h.get? (n0 + ls.length + 2) = some { cls := .type "zip", dict := none, data := .fields #[x0, .bool f, .bool false, .ref (n0 + ls.length), .ref (n0 + ls.length + 1)], slots := #[] }
  ti : h.get? (n0 + ls.length) = some { cls := .type "tuple", data := .seq ((List.range ls.length).map fun j => Value.ref (n0 + j)).toArray }
  to : ∃ vs : List Value, vs.length = ls.length ∧ h.get? (n0 + ls.length + 1) = some { cls := .type "tuple", data := .seq vs.toArray }
  its : ∀ (j : Nat) (l : Addr), ls[j]? = some l → h.IsListIter (n0 + j) l (if j < k then i + 1 else i)
theorem HS.step {n0 : Nat} {ls : List Addr} {i k : Nat} {x0 : Value} {f : Bool} {h0 h h2 : Heap} (F : HS n0 ls i x0 f h0 k h) (hk : k < ls.length) {l : Addr} (hll : ls[k]? = some l)
    (h2i : h2.IsListIter (n0 + k) l (i + 1)) (s2 : Heap.SameBut (n0 + k) h h2) : HS n0 ls i x0 f h0 (k + 1) h2 := by
  obtain ⟨vs, hvl, e⟩ := F.to
  refine ⟨by rw [s2.1, F.sz], fun c hc => ?_, ?_, ?_, ⟨vs, hvl, ?_⟩, fun j l' hj => ?_⟩
  · have h2 : (c : Nat) ≠ n0 + k := by unfold Out at hc; omega
    rw [s2.2 c h2, F.out c hc]
  · rw [s2.2 _ (nn (by omega))]; exact F.z
  · rw [s2.2 _ (nn (by omega))]; exact F.ti
  · rw [s2.2 _ (nn (by omega))]; exact e
  · have hjl : j < ls.length := (List.getElem?_eq_some_iff.mp hj).1
    by_cases e : j = k
    · subst e
      rw [hll] at hj
      cases hj
      rw [if_pos (by omega)]
      exact h2i
    · have := F.its j l' hj
      have q : h2.get? (n0 + j) = h.get? (n0 + j) := s2.2 _ (nn (by omega))
      by_cases hlt : j < k
      · rw [if_pos hlt] at this
        rw [if_pos (by omega)]
        exact iter_of this q
      · rw [if_neg hlt] at this
        rw [if_neg (by omega)]
        exact iter_of this q
end
theorem drop_cons {α : Type} {x : α} {rest l : List α} {k : Nat} (e : x :: rest = l.drop k) : l[k]? = some x ∧ rest = l.drop (k + 1) := by
  constructor
  · have := congrArg (fun q => q[0]?) e
    simpa using this.symm
  · have := congrArg List.tail e
    simpa [List.tail_drop] using this
theorem zi_at {n n0 k : Nat} {x : Value × Nat} (h : (((List.range n).map fun j => Value.ref (n0 + j)).zipIdx)[k]? = some x) : k < n ∧ x = (Value.ref (n0 + k), k) := by
  rw [List.getElem?_zipIdx, List.getElem?_map] at h
  by_cases hk : k < n
  · rw [List.getElem?_range hk] at h
    simp at h
    exact ⟨hk, h.symm⟩
  · rw [List.getElem?_eq_none (by simpa using hk)] at h
    cases h
theorem it_at {n n0 k : Nat} {x : Value} (h : ((List.range n).map fun j => Value.ref (n0 + j))[k]? = some x) : k < n ∧ x = Value.ref (n0 + k) := by
  rw [List.getElem?_map] at h
  by_cases hk : k < n
  · rw [List.getElem?_range hk] at h
    simp at h
    exact ⟨hk, h.symm⟩
  · rw [List.getElem?_eq_none (by simpa using hk)] at h
    cases h
section
variable {prog : Program} {w : World} {A : Around} {E : Value → Shared → Prop} {s : Shared}
theorem alive {a : Addr} {Q : Option Obj → Shared → Prop} (h : Q (s.heap.get? a) s) : wpAny (model prog w) A (loadIfAlive a) Q E s := fun _ _ _ => h
/-- what is asked of the lists: all have an item at i; or one has none -/
def Has (h : Heap) (ls : List Addr) (i : Nat) (us : List Value) : Prop := ∀ (j : Nat) (l : Addr) (u : Value), ls[j]? = some l → us[j]? = some u → ∃ xs : Array Value, h.IsList l xs ∧ xs[i]? = some u
theorem next_item {n0 : Nat} {ls : List Addr} {us : List Value} {i : Nat} {Q : Value → Shared → Prop} (hne : ls ≠ []) (hsz : ls.length ≤ 1000000) (st : ZS n0 ls i s.heap) (hl : us.length = ls.length) (low : ∀ l ∈ ls, (l : Nat) < n0)
    (hi : Has s.heap ls i us)
    (hQ : ∀ h', ZS n0 ls (i + 1) h' → h'.get? s.heap.objs.size = some { cls := .type "tuple", data := .seq us.toArray } → h'.objs.size = s.heap.objs.size + 1 →
      (∀ c : Nat, Out n0 ls.length c → ∀ o, s.heap.get? c = some o → h'.get? c = some o) → Q (.ref s.heap.objs.size) { s with heap := h' }) :
    wpAny (model prog w) A (Builtin.«zip.__next__» ⟨[.ref (n0 + ls.length + 2)], []⟩) (fun fin s' => ∃ v, fin = .done (.ret v) ∧ Q v s') E s := by
  obtain ⟨⟨x0, f, hx0, hz⟩, hTI, ⟨vs, hvl, hTO⟩, hits⟩ := st
  have hnz : 0 < ls.length := by cases ls with | nil => exact absurd rfl hne | cons a r => exact Nat.succ_pos _
  have hb : s.heap.objs.size > n0 + ls.length + 2 := Heap.lt_size hz
  show wpAny _ _ (field (.ref (n0 + ls.length + 2)) 2 >>= _) _ _ _
  refine wpAny_bind (wpAny_field hz rfl (x := .bool false) rfl ?_)
  show wpAny _ _ (field (.ref (n0 + ls.length + 2)) 3 >>= _) _ _ _
  refine wpAny_bind (wpAny_field hz rfl (x := .ref (n0 + ls.length)) rfl ?_)
  refine wpAny_bind (wpAny_seqItems hTI rfl ?_)
  have hemp : (((List.range ls.length).map fun j => Value.ref (n0 + j)).toArray).isEmpty = false := by
    simp
    intro z; exact hne z
  simp only []
  rw [if_neg (by rw [hemp]; exact Bool.false_ne_true)]
  show wpAny _ _ (Builtin.SmallTypes.ownedTupleIsFree (.ref (n0 + ls.length + 2)) >>= _) _ _ _
  refine wpAny_bind ?_
  -- two ways
  refine wpAny_mono (Q := fun b s' => (b = true ∧ s' = s) ∨ (b = false ∧ ∃ h f', s' = { s with heap := h } ∧ Heap.SameBut (n0 + ls.length + 2) s.heap h ∧ h.get? (n0 + ls.length + 2) = some { cls := .type "zip", dict := none, data := .fields #[x0, .bool f', .bool false, .ref (n0 + ls.length), .ref (n0 + ls.length + 1)], slots := #[] })) (E := fun _ _ => False) ?_ ?_ (fun _ _ z => z.elim)
  · unfold Builtin.SmallTypes.ownedTupleIsFree
    rcases hx0 with rfl | ⟨T, rfl⟩
    · exact wpAny_bind (wpAny_field hz rfl (x := .none) rfl (wpAny_pure (.inl ⟨rfl, rfl⟩)))
    · refine wpAny_bind (wpAny_field hz rfl (x := rawInt T) rfl ?_)
      show wpAny _ _ (loadIfAlive ((T : Int).toNat) >>= _) _ _ _
      rw [Int.toNat_natCast]
      refine wpAny_bind ?_
      cases hT : s.heap.get? T with
      | none =>
        refine alive ?_
        rw [hT]
        simp only [Option.isNone_none, if_true]
        exact wpAny_pure (.inl ⟨rfl, rfl⟩)
      | some oT =>
        refine alive ?_
        rw [hT]
        simp only [Option.isNone_some, Bool.false_eq_true, if_false]
        refine wpAny_bind (wpAny_field hz rfl (x := .bool f) rfl ?_)
        cases f with
        | true =>
          rw [if_neg (show ¬ ((Value.bool true != Value.bool true) = true) from Bool.false_ne_true)]
          exact wpAny_pure (.inr ⟨rfl, s.heap, true, rfl, Heap.SameBut.refl _ _, hz⟩)
        | false =>
          rw [if_pos (show (Value.bool false != Value.bool true) = true from rfl)]
          exact wpAny_bind (wpAny_setField_rec hz (by simp) fun h₁ hz₁ hs₁ => wpAny_pure (.inr ⟨rfl, h₁, true, rfl, hs₁, hz₁⟩))
  rintro b s1 (⟨rfl, rfl⟩ | ⟨rfl, h₀, f', rfl, hs₀, hz₀⟩)
  · -- the tuple is free
    simp only [if_true]
    refine wpAny_bind (wpAny_rule ?_)
    refine wpAny_bind (wpAny_field hz rfl (x := .ref (n0 + ls.length + 1)) rfl ?_)
    refine wpAny_bind (wpAny_setField_rec hz (by simp) fun h₁ hz₁ hs₁ => ?_)
    refine wpAny_bind ?_
    have F0 : FS n0 ls us i f s1.heap 0 h₁ := by
      refine ⟨hs₁.1, fun c hc => hs₁.2 c (nn (by unfold Out at hc; omega)), hz₁, ?_, ⟨vs, hvl, by simp, ?_⟩, fun j l hj => ?_⟩
      · rw [hs₁.2 _ (nn (by omega))]; exact hTI
      · rw [hs₁.2 _ (nn (by omega))]; exact hTO
      · have hjl : j < ls.length := (List.getElem?_eq_some_iff.mp hj).1
        rw [if_neg (Nat.not_lt_zero _)]
        exact iter_of (hits j l hj) (hs₁.2 _ (nn (by omega)))
    refine wpAny_forIn_list _ (fun rest b s' => ∃ k h, b = (none, ()) ∧ rest = (((List.range ls.length).map fun j => Value.ref (n0 + j)).zipIdx).drop k ∧ k ≤ ls.length ∧ s' = { s1 with heap := h } ∧ FS n0 ls us i f s1.heap k h) _ ?_ ?_ _ _ ⟨0, h₁, rfl, rfl, Nat.zero_le _, rfl, F0⟩
    · rintro x rest b _ ⟨k, h, rfl, hrest, hk, rfl, F⟩
      obtain ⟨hx, hr⟩ := drop_cons hrest
      obtain ⟨hkl, rfl⟩ := zi_at hx
      obtain ⟨l, hll⟩ : ∃ l, ls[k]? = some l := ⟨_, List.getElem?_eq_getElem hkl⟩
      obtain ⟨u, hu⟩ : ∃ u, us[k]? = some u := ⟨_, List.getElem?_eq_getElem (by omega)⟩
      obtain ⟨xs, hxs, hxi⟩ := hi k l u hll hu
      have lo := low l (List.mem_of_getElem? hll)
      have hit := F.its k l hll
      rw [if_neg (Nat.lt_irrefl _)] at hit
      refine wpAny_bind (wpAny_onRaise ?_)
      show wpAny _ _ (Builtin.SmallTypes.nextOf (.ref (n0 + k)) >>= _) _ _ _
      refine wpAny_bind (wpAny_nextOf_list_item hit (list_of hxs (F.out l (.inl lo))) hxi fun h₂ h2i hs₂ => wpAny_pure ?_)
      obtain ⟨vs', hvl', hvt', hto'⟩ := F.to
      have hto2 : h₂.get? (n0 + ls.length + 1) = some { cls := .type "tuple", data := .seq vs'.toArray } := by rw [hs₂.2 _ (nn (by omega))]; exact hto'
      refine wpAny_bind (wpAny_seqItems hto2 rfl ?_)
      refine wpAny_bind (wpAny_updateSeq hto2 rfl ?_ (by simp [hvl']; show _ ≤ sizeLine; unfold sizeLine; omega) (by simp [hvl']; show _ ≤ sizeLine + 1; unfold sizeLine; omega))
      refine wpAny_bind (wpAny_letGo (wpAny_pure ?_))
      refine ⟨k + 1, _, rfl, hr, hkl, rfl, F.step hkl hl hu hll h2i hs₂ hvl' hvt' (Heap.SameBut.update ..) ?_⟩
      rw [Heap.get?_update_self _ hto2 rfl]
      simp [Obj.mapSeq]
    · rintro b _ ⟨k, h, rfl, hrest, hk, rfl, F⟩
      have hkn : k = ls.length := by
        have := congrArg List.length hrest
        simp at this
        omega
      subst hkn
      obtain ⟨vs', hvl', hvt', hto'⟩ := F.to
      have hvu : vs' = us := by rw [List.take_of_length_le (by omega), List.take_of_length_le (by omega)] at hvt'; exact hvt'
      subst hvu
      refine wpAny_bind (wpAny_seqItems hto' rfl ?_)
      refine wpAny_bind (wpAny_newTuple ?_ (by simp [hvl']; unfold sizeLine; omega))
      show wpAny _ _ (Builtin.SmallTypes.ownedTupleHandOut (.ref (n0 + ls.length + 2)) (.ref h.objs.size) >>= _) _ _ _
      refine wpAny_bind ?_
      unfold Builtin.SmallTypes.ownedTupleHandOut
      have hz₆ := Heap.get?_push_of_some { cls := .type "tuple", data := .seq vs'.toArray } F.z
      have hTT : (h.push { cls := .type "tuple", data := .seq vs'.toArray }).get? h.objs.size = some { cls := .type "tuple", data := .seq vs'.toArray } := Heap.get?_push_size _ rfl
      refine wpAny_bind (wpAny_setField_rec (s := { s1 with heap := h.push _ }) hz₆ (by simp) fun h₇ hz₇ hs₇ => ?_)
      refine wpAny_setField_rec (s := { s1 with heap := h₇ }) hz₇ (by simp) fun h₈ hz₈ hs₈ => ?_
      have hsz' : h.objs.size = s1.heap.objs.size := F.sz
      have up : ∀ c : Nat, c ≠ n0 + ls.length + 2 → ∀ o, h.get? c = some o → h₈.get? c = some o := fun c c1 o e => by
        rw [hs₈.2 c (nn c1), hs₇.2 c (nn c1)]
        exact Heap.get?_push_of_some _ e
      refine wpAny_pure ⟨_, rfl, ?_⟩
      show Q (.ref h.objs.size) _
      rw [hsz']
      refine hQ h₈ ⟨⟨_, _, .inr ⟨_, rfl⟩, hz₈⟩, up _ (by omega) _ F.ti, ⟨vs', hvl', up _ (by omega) _ hto'⟩, fun j l hj => ?_⟩ ?_ ?_ ?_
      · have hjl : j < ls.length := (List.getElem?_eq_some_iff.mp hj).1
        have := F.its j l hj
        rw [if_pos hjl] at this
        exact this.at fun o q => up _ (by omega) _ q
      · rw [← hsz', hs₈.2 _ (nn (by omega)), hs₇.2 _ (nn (by omega))]
        exact hTT
      · rw [hs₈.1, hs₇.1, Heap.size_push, hsz']
      · intro c hc o q
        have hc' := hc
        unfold Out at hc
        exact up c (by omega) o (by rw [F.out c hc']; exact q)
  · simp only [Bool.false_eq_true, if_false]
    refine wpAny_bind ?_
    have F0 : HS n0 ls i x0 f' s.heap 0 h₀ := by
      refine ⟨hs₀.1, fun c hc => hs₀.2 c (nn (by unfold Out at hc; omega)), hz₀, ?_, ⟨vs, hvl, ?_⟩, fun j l hj => ?_⟩
      · rw [hs₀.2 _ (nn (by omega))]; exact hTI
      · rw [hs₀.2 _ (nn (by omega))]; exact hTO
      · have hjl : j < ls.length := (List.getElem?_eq_some_iff.mp hj).1
        rw [if_neg (Nat.not_lt_zero _)]
        exact iter_of (hits j l hj) (hs₀.2 _ (nn (by omega)))
    rw [← Array.forIn_toList]
    refine wpAny_forIn_list _ (fun rest b s' => ∃ k h, b = (none, (us.take k).toArray) ∧ rest = ((List.range ls.length).map fun j => Value.ref (n0 + j)).drop k ∧ k ≤ ls.length ∧ s' = { s with heap := h } ∧ HS n0 ls i x0 f' s.heap k h) _ ?_ ?_ _ _ ⟨0, h₀, by simp, by simp, Nat.zero_le _, rfl, F0⟩
    · rintro x rest b _ ⟨k, h, rfl, hrest, hk, rfl, F⟩
      obtain ⟨hx, hr⟩ := drop_cons hrest
      obtain ⟨hkl, rfl⟩ := it_at hx
      obtain ⟨l, hll⟩ : ∃ l, ls[k]? = some l := ⟨_, List.getElem?_eq_getElem hkl⟩
      obtain ⟨u, hu⟩ : ∃ u, us[k]? = some u := ⟨_, List.getElem?_eq_getElem (by omega)⟩
      obtain ⟨xs, hxs, hxi⟩ := hi k l u hll hu
      have lo := low l (List.mem_of_getElem? hll)
      have hit := F.its k l hll
      rw [if_neg (Nat.lt_irrefl _)] at hit
      refine wpAny_bind (wpAny_holding ?_)
      show wpAny _ _ (Builtin.SmallTypes.nextOf (.ref (n0 + k)) >>= _) _ _ _
      refine wpAny_bind (wpAny_nextOf_list_item hit (list_of hxs (F.out l (.inl lo))) hxi fun h₂ h2i hs₂ => wpAny_pure ?_)
      refine wpAny_pure ⟨k + 1, h₂, ?_, hr, hkl, rfl, F.step hkl hll h2i hs₂⟩
      rw [List.take_succ, hu]
      simp
    · rintro b _ ⟨k, h, rfl, hrest, hk, rfl, F⟩
      have hkn : k = ls.length := by
        have := congrArg List.length hrest
        simp at this
        omega
      subst hkn
      have hut : us.take ls.length = us := List.take_of_length_le (by omega)
      rw [hut]
      refine wpAny_bind (wpAny_newTuple ?_ (by simp [hl]; unfold sizeLine; omega))
      refine wpAny_pure ⟨_, rfl, ?_⟩
      have hsz' : h.objs.size = s.heap.objs.size := F.sz
      show Q (.ref h.objs.size) _
      have hT : (h.push { cls := .type "tuple", data := .seq us.toArray }).get? h.objs.size = some { cls := .type "tuple", data := .seq us.toArray } := Heap.get?_push_size _ rfl
      have up : ∀ (c : Nat) o, h.get? c = some o → (h.push { cls := .type "tuple", data := .seq us.toArray }).get? c = some o := fun c o e => Heap.get?_push_of_some _ e
      rw [hsz']
      obtain ⟨vs', hvl', hto'⟩ := F.to
      refine hQ (h.push { cls := .type "tuple", data := .seq us.toArray }) ⟨⟨x0, f', hx0, up _ _ F.z⟩, up _ _ F.ti, ⟨vs', hvl', up _ _ hto'⟩, fun j l hj => ?_⟩ ?_ ?_ ?_
      · have hjl : j < ls.length := (List.getElem?_eq_some_iff.mp hj).1
        have := F.its j l hj
        rw [if_pos hjl] at this
        exact this.at fun o q => up _ _ q
      · rw [← hsz']
        exact hT
      · rw [Heap.size_push, hsz']
      · intro c hc o q
        exact up c o (by rw [F.out c hc]; exact q)
theorem HS.step2 {n0 : Nat} {ls : List Addr} {i k : Nat} {x0 : Value} {f : Bool} {h0 h h2 h3 : Heap} (F : HS n0 ls i x0 f h0 k h) (hk : k < ls.length) {l : Addr} (hll : ls[k]? = some l)
    (h2i : h2.IsListIter (n0 + k) l (i + 1)) (s2 : Heap.SameBut (n0 + k) h h2) (s3 : Heap.SameBut (n0 + ls.length + 1) h2 h3) {vs : List Value} (hvl : vs.length = ls.length) (e3 : h3.get? (n0 + ls.length + 1) = some { cls := .type "tuple", data := .seq vs.toArray }) : HS n0 ls i x0 f h0 (k + 1) h3 := by
  have G := F.step hk hll h2i s2
  refine ⟨by rw [s3.1, G.sz], fun c hc => ?_, ?_, ?_, ⟨vs, hvl, e3⟩, fun j l' hj => ?_⟩
  · rw [s3.2 c (nn (by unfold Out at hc; omega)), G.out c hc]
  · rw [s3.2 _ (nn (by omega))]; exact G.z
  · rw [s3.2 _ (nn (by omega))]; exact G.ti
  · have hjl : j < ls.length := (List.getElem?_eq_some_iff.mp hj).1
    exact iter_of (G.its j l' hj) (s3.2 _ (nn (by omega)))
theorem next_end {n0 : Nat} {ls : List Addr} {i : Nat} {Q : Fin → Shared → Prop} (hh : A.handled = none) (hsz : ls.length ≤ 1000000) (st : ZS n0 ls i s.heap) (low : ∀ l ∈ ls, (l : Nat) < n0)
    (hls : ∀ (j : Nat) (l : Addr), ls[j]? = some l → ∃ xs : Array Value, s.heap.IsList l xs) (hend : ∃ (j : Nat) (l : Addr), ls[j]? = some l ∧ ∀ xs : Array Value, s.heap.IsList l xs → xs[i]? = none)
    (hE : ∀ h' e, (∀ c : Nat, Out n0 ls.length c → ∀ o, s.heap.get? c = some o → h'.get? c = some o) → (∃ o, h'.get? e = some o ∧ o.cls = .type "StopIteration") → E (.ref e) { s with heap := h' }) :
    wpAny (model prog w) A (Builtin.«zip.__next__» ⟨[.ref (n0 + ls.length + 2)], []⟩) Q E s := by
  obtain ⟨⟨x0, f, hx0, hz⟩, hTI, ⟨vs, hvl, hTO⟩, hits⟩ := st
  obtain ⟨jm, lm, hjm, hnone⟩ := hend
  have hjml : jm < ls.length := (List.getElem?_eq_some_iff.mp hjm).1
  have hb : s.heap.objs.size > n0 + ls.length + 2 := Heap.lt_size hz
  show wpAny _ _ (field (.ref (n0 + ls.length + 2)) 2 >>= _) _ _ _
  refine wpAny_bind (wpAny_field hz rfl (x := .bool false) rfl ?_)
  show wpAny _ _ (field (.ref (n0 + ls.length + 2)) 3 >>= _) _ _ _
  refine wpAny_bind (wpAny_field hz rfl (x := .ref (n0 + ls.length)) rfl ?_)
  refine wpAny_bind (wpAny_seqItems hTI rfl ?_)
  have hemp : (((List.range ls.length).map fun j => Value.ref (n0 + j)).toArray).isEmpty = false := by
    simp
    intro z; subst z; exact Nat.not_lt_zero _ hjml
  simp only []
  rw [if_neg (by rw [hemp]; exact Bool.false_ne_true)]
  show wpAny _ _ (Builtin.SmallTypes.ownedTupleIsFree (.ref (n0 + ls.length + 2)) >>= _) _ _ _
  refine wpAny_bind ?_
  refine wpAny_mono (Q := fun b s' => (b = true ∧ s' = s) ∨ (b = false ∧ ∃ h f', s' = { s with heap := h } ∧ Heap.SameBut (n0 + ls.length + 2) s.heap h ∧ h.get? (n0 + ls.length + 2) = some { cls := .type "zip", dict := none, data := .fields #[x0, .bool f', .bool false, .ref (n0 + ls.length), .ref (n0 + ls.length + 1)], slots := #[] })) (E := fun _ _ => False) ?_ ?_ (fun _ _ z => z.elim)
  · unfold Builtin.SmallTypes.ownedTupleIsFree
    rcases hx0 with rfl | ⟨T, rfl⟩
    · exact wpAny_bind (wpAny_field hz rfl (x := .none) rfl (wpAny_pure (.inl ⟨rfl, rfl⟩)))
    · refine wpAny_bind (wpAny_field hz rfl (x := rawInt T) rfl ?_)
      show wpAny _ _ (loadIfAlive ((T : Int).toNat) >>= _) _ _ _
      rw [Int.toNat_natCast]
      refine wpAny_bind ?_
      cases hT : s.heap.get? T with
      | none =>
        refine alive ?_
        rw [hT]
        simp only [Option.isNone_none, if_true]
        exact wpAny_pure (.inl ⟨rfl, rfl⟩)
      | some oT =>
        refine alive ?_
        rw [hT]
        simp only [Option.isNone_some, Bool.false_eq_true, if_false]
        refine wpAny_bind (wpAny_field hz rfl (x := .bool f) rfl ?_)
        cases f with
        | true =>
          rw [if_neg (show ¬ ((Value.bool true != Value.bool true) = true) from Bool.false_ne_true)]
          exact wpAny_pure (.inr ⟨rfl, s.heap, true, rfl, Heap.SameBut.refl _ _, hz⟩)
        | false =>
          rw [if_pos (show (Value.bool false != Value.bool true) = true from rfl)]
          exact wpAny_bind (wpAny_setField_rec hz (by simp) fun h₁ hz₁ hs₁ => wpAny_pure (.inr ⟨rfl, h₁, true, rfl, hs₁, hz₁⟩))
  rintro b s1 (⟨rfl, rfl⟩ | ⟨rfl, h₀, f', rfl, hs₀, hz₀⟩)
  · simp only [if_true]
    refine wpAny_bind (wpAny_rule ?_)
    refine wpAny_bind (wpAny_field hz rfl (x := .ref (n0 + ls.length + 1)) rfl ?_)
    refine wpAny_bind (wpAny_setField_rec hz (by simp) fun h₁ hz₁ hs₁ => ?_)
    refine wpAny_bind ?_
    have F0 : HS n0 ls i .ellipsis f s1.heap 0 h₁ := by
      refine ⟨hs₁.1, fun c hc => hs₁.2 c (nn (by unfold Out at hc; omega)), hz₁, ?_, ⟨vs, hvl, ?_⟩, fun j l hj => ?_⟩
      · rw [hs₁.2 _ (nn (by omega))]; exact hTI
      · rw [hs₁.2 _ (nn (by omega))]; exact hTO
      · have hjl : j < ls.length := (List.getElem?_eq_some_iff.mp hj).1
        rw [if_neg (Nat.not_lt_zero _)]
        exact iter_of (hits j l hj) (hs₁.2 _ (nn (by omega)))
    refine wpAny_forIn_list _ (fun rest b s' => ∃ k h, b = (none, ()) ∧ rest = (((List.range ls.length).map fun j => Value.ref (n0 + j)).zipIdx).drop k ∧ k ≤ jm ∧ s' = { s1 with heap := h } ∧ HS n0 ls i .ellipsis f s1.heap k h) _ ?_ ?_ _ _ ⟨0, h₁, rfl, rfl, Nat.zero_le _, rfl, F0⟩
    · rintro x rest b _ ⟨k, h, rfl, hrest, hk, rfl, F⟩
      obtain ⟨hx, hr⟩ := drop_cons hrest
      obtain ⟨hkl, rfl⟩ := zi_at hx
      obtain ⟨l, hll⟩ : ∃ l, ls[k]? = some l := ⟨_, List.getElem?_eq_getElem hkl⟩
      obtain ⟨xs, hxs⟩ := hls k l hll
      have lo := low l (List.mem_of_getElem? hll)
      have hit := F.its k l hll
      rw [if_neg (Nat.lt_irrefl _)] at hit
      refine wpAny_bind (wpAny_onRaise ?_)
      show wpAny _ _ (Builtin.SmallTypes.nextOf (.ref (n0 + k)) >>= _) _ _ _
      cases hxi : xs[i]? with
      | none =>
        refine wpAny_bind (wpAny_nextOf_list_end hh hit (list_of hxs (F.out l (.inl lo))) hxi fun h₂ e hs₂ he => ?_)
        obtain ⟨oe, hoe, hce⟩ := he
        have hz₂ := hs₂ _ _ (nn (show n0 + ls.length + 2 ≠ n0 + k by omega)) F.z
        have hez : e ≠ (n0 + ls.length + 2 : Nat) := fun x => by subst x; rw [hz₂] at hoe; cases hoe; simp at hce
        refine wpAny_setField_rec (s := { s1 with heap := h₂ }) hz₂ (by simp) fun h₃ _ hs₃ => hE h₃ e (fun c hc o q => ?_) ⟨oe, hs₃.extBut _ _ hez hoe, hce⟩
        have hc' := hc
        unfold Out at hc
        exact hs₃.extBut _ _ (nn (by omega)) (hs₂ _ _ (nn (by omega)) (by rw [F.out c hc']; exact q))
      | some u =>
        refine wpAny_bind (wpAny_nextOf_list_item hit (list_of hxs (F.out l (.inl lo))) hxi fun h₂ h2i hs₂ => wpAny_pure ?_)
        obtain ⟨vs', hvl', hto'⟩ := F.to
        have hto2 : h₂.get? (n0 + ls.length + 1) = some { cls := .type "tuple", data := .seq vs'.toArray } := by rw [hs₂.2 _ (nn (by omega))]; exact hto'
        refine wpAny_bind (wpAny_seqItems hto2 rfl ?_)
        refine wpAny_bind (wpAny_updateSeq hto2 rfl ?_ (by simp [hvl']; show _ ≤ sizeLine; unfold sizeLine; omega) (by simp [hvl']; show _ ≤ sizeLine + 1; unfold sizeLine; omega))
        refine wpAny_bind (wpAny_letGo (wpAny_pure ?_))
        have hkj : k ≠ jm := by
          rintro rfl
          rw [hll] at hjm
          cases hjm
          rw [hnone xs hxs] at hxi
          cases hxi
        refine ⟨k + 1, _, rfl, hr, by omega, rfl, F.step2 (vs := vs'.set k u) hkl hll h2i hs₂ (Heap.SameBut.update ..) (by rw [List.length_set, hvl']) ?_⟩
        rw [Heap.get?_update_self _ hto2 rfl]
        simp [Obj.mapSeq]
    · rintro b _ ⟨k, h, rfl, hrest, hk, rfl, F⟩
      have := congrArg List.length hrest
      simp at this
      omega
  · simp only [Bool.false_eq_true, if_false]
    refine wpAny_bind ?_
    have F0 : HS n0 ls i x0 f' s.heap 0 h₀ := by
      refine ⟨hs₀.1, fun c hc => hs₀.2 c (nn (by unfold Out at hc; omega)), hz₀, ?_, ⟨vs, hvl, ?_⟩, fun j l hj => ?_⟩
      · rw [hs₀.2 _ (nn (by omega))]; exact hTI
      · rw [hs₀.2 _ (nn (by omega))]; exact hTO
      · have hjl : j < ls.length := (List.getElem?_eq_some_iff.mp hj).1
        rw [if_neg (Nat.not_lt_zero _)]
        exact iter_of (hits j l hj) (hs₀.2 _ (nn (by omega)))
    rw [← Array.forIn_toList]
    refine wpAny_forIn_list _ (fun rest b s' => ∃ k h, b.1 = none ∧ rest = ((List.range ls.length).map fun j => Value.ref (n0 + j)).drop k ∧ k ≤ jm ∧ s' = { s with heap := h } ∧ HS n0 ls i x0 f' s.heap k h) _ ?_ ?_ _ _ ⟨0, h₀, rfl, by simp, Nat.zero_le _, rfl, F0⟩
    · rintro x rest b _ ⟨k, h, hb1, hrest, hk, rfl, F⟩
      obtain ⟨hx, hr⟩ := drop_cons hrest
      obtain ⟨hkl, rfl⟩ := it_at hx
      obtain ⟨l, hll⟩ : ∃ l, ls[k]? = some l := ⟨_, List.getElem?_eq_getElem hkl⟩
      obtain ⟨xs, hxs⟩ := hls k l hll
      have lo := low l (List.mem_of_getElem? hll)
      have hit := F.its k l hll
      rw [if_neg (Nat.lt_irrefl _)] at hit
      refine wpAny_bind (wpAny_holding ?_)
      show wpAny _ _ (Builtin.SmallTypes.nextOf (.ref (n0 + k)) >>= _) _ _ _
      cases hxi : xs[i]? with
      | none =>
        refine wpAny_bind (wpAny_nextOf_list_end hh hit (list_of hxs (F.out l (.inl lo))) hxi fun h₂ e hs₂ he => ?_)
        refine hE h₂ e (fun c hc o q => ?_) he
        have hc' := hc
        unfold Out at hc
        exact hs₂ _ _ (nn (by omega)) (by rw [F.out c hc']; exact q)
      | some u =>
        refine wpAny_bind (wpAny_nextOf_list_item hit (list_of hxs (F.out l (.inl lo))) hxi fun h₂ h2i hs₂ => wpAny_pure ?_)
        have hkj : k ≠ jm := by
          rintro rfl
          rw [hll] at hjm
          cases hjm
          rw [hnone xs hxs] at hxi
          cases hxi
        exact wpAny_pure ⟨k + 1, h₂, rfl, hr, by omega, rfl, F.step hkl hll h2i hs₂⟩
    · rintro b _ ⟨k, h, hb1, hrest, hk, rfl, F⟩
      have := congrArg List.length hrest
      simp at this
      omega
end
section
theorem typeCall_4 : ∀ vs : List Value, vs.length = 4 → checkTypeCall "zip" ⟨vs, []⟩ = pure ()
  | [a, b, c, d], _ => by kernel_rfl
theorem typeCall_6 : ∀ vs : List Value, vs.length = 6 → checkTypeCall "zip" ⟨vs, []⟩ = pure ()
  | [a, b, c, d, e, f], _ => by kernel_rfl
theorem typeCall_8 : ∀ vs : List Value, vs.length = 8 → checkTypeCall "zip" ⟨vs, []⟩ = pure ()
  | [a, b, c, d, e, f, g, h], _ => by kernel_rfl
theorem newCall_4 : ∀ vs : List Value, vs.length = 4 → checkBuiltinCall "zip.__new__" ⟨.type "zip" :: vs, []⟩ = pure ()
  | [a, b, c, d], _ => by kernel_rfl
theorem newCall_6 : ∀ vs : List Value, vs.length = 6 → checkBuiltinCall "zip.__new__" ⟨.type "zip" :: vs, []⟩ = pure ()
  | [a, b, c, d, e, f], _ => by kernel_rfl
theorem newCall_8 : ∀ vs : List Value, vs.length = 8 → checkBuiltinCall "zip.__new__" ⟨.type "zip" :: vs, []⟩ = pure ()
  | [a, b, c, d, e, f, g, h], _ => by kernel_rfl
theorem init_4 (o : Value) : ∀ vs : List Value, vs.length = 4 → argsOk "object.__init__" ⟨o :: vs, []⟩
  | [a, b, c, d], _ => by
    unfold argsOk; rw [signature?_of (id := "object.__init__") (n := ['_', '_', 't', 'i', 'n', 'i', '_', '_']) (o := ['t', 'c', 'e', 'j', 'b', 'o']) (by kernel_rfl) F.owner_object]; kernel_rfl
theorem init_6 (o : Value) : ∀ vs : List Value, vs.length = 6 → argsOk "object.__init__" ⟨o :: vs, []⟩
  | [a, b, c, d, e, f], _ => by
    unfold argsOk; rw [signature?_of (id := "object.__init__") (n := ['_', '_', 't', 'i', 'n', 'i', '_', '_']) (o := ['t', 'c', 'e', 'j', 'b', 'o']) (by kernel_rfl) F.owner_object]; kernel_rfl
theorem init_8 (o : Value) : ∀ vs : List Value, vs.length = 8 → argsOk "object.__init__" ⟨o :: vs, []⟩
  | [a, b, c, d, e, f, g, h], _ => by
    unfold argsOk; rw [signature?_of (id := "object.__init__") (n := ['_', '_', 't', 'i', 'n', 'i', '_', '_']) (o := ['t', 'c', 'e', 'j', 'b', 'o']) (by kernel_rfl) F.owner_object]; kernel_rfl
end
end Vz
namespace Vz
open PySem PySem.Spec PyProof.Rows L2
section
variable {prog : Program} {w : World} {A : Around} {E : Value → Shared → Prop} {s : Shared}
/-- the iterators of the lists, one after the other -/
theorem iterAll_lists (ls : List Addr) (hl : ∀ l ∈ ls, ∃ xs : Array Value, s.heap.IsList l xs) :
    wpAny (model prog w) A (Builtin.SmallTypes.iterAll (ls.map Value.ref)) (fun its s' => its = (List.range ls.length).map (fun j => Value.ref (s.heap.objs.size + j)) ∧ ∃ h1, s' = { s with heap := h1 } ∧ h1.objs.size = s.heap.objs.size + ls.length ∧
      (∀ c o, s.heap.get? c = some o → h1.get? c = some o) ∧ ∀ (j : Nat) (l : Addr), ls[j]? = some l → h1.IsListIter ((s.heap.objs.size + j : Nat)) l 0) (fun _ _ => False) s := by
  unfold Builtin.SmallTypes.iterAll
  refine wpAny_bind ?_
  refine wpAny_forIn_list _ (fun rest b s' => ∃ k h1, b = ((List.range k).map (fun j => Value.ref (s.heap.objs.size + j))).toArray ∧ rest = (ls.map Value.ref).drop k ∧ k ≤ ls.length ∧ s' = { s with heap := h1 } ∧ h1.objs.size = s.heap.objs.size + k ∧ (∀ c o, s.heap.get? c = some o → h1.get? c = some o) ∧ ∀ (j : Nat) (l : Addr), j < k → ls[j]? = some l → h1.IsListIter ((s.heap.objs.size + j : Nat)) l 0) _ ?_ ?_ _ _ ⟨0, s.heap, rfl, rfl, Nat.zero_le _, rfl, rfl, fun _ _ q => q, fun j l hj => absurd hj (Nat.not_lt_zero _)⟩
  · rintro x rest b _ ⟨k, h1, rfl, hrest, hk, rfl, hsz, hkp, hit⟩
    obtain ⟨hx, hr⟩ := drop_cons hrest
    rw [List.getElem?_map] at hx
    have hkl : k < ls.length := by
      by_cases q : k < ls.length
      · exact q
      · rw [List.getElem?_eq_none (by omega)] at hx; cases hx
    rw [List.getElem?_eq_getElem hkl] at hx
    obtain rfl : Value.ref ls[k] = x := by simpa using hx
    obtain ⟨xs, hxs⟩ := hl ls[k] (List.getElem_mem hkl)
    refine wpAny_bind (wpAny_holding ?_)
    refine wpAny_pyIter_list (s := { s with heap := h1 }) (hxs.at fun o q => hkp _ _ q) ?_
    refine wpAny_pure ⟨k + 1, _, ?_, hr, hkl, rfl, ?_, fun c o q => Heap.get?_push_of_some _ (hkp c o q), fun j l hj hjl => ?_⟩
    · rw [List.range_succ, List.map_append, hsz]
      simp
    · rw [Heap.size_push, hsz]; rfl
    · by_cases e : j = k
      · subst e
        rw [List.getElem?_eq_getElem hkl] at hjl
        cases hjl
        exact ⟨_, by rw [← hsz]; exact Heap.get?_push_size _ rfl, rfl, rfl⟩
      · exact (hit j l (by omega) hjl).at fun o q => Heap.get?_push_of_some _ q
  · rintro b _ ⟨k, h1, rfl, hrest, hk, rfl, hsz, hkp, hit⟩
    have hkn : k = ls.length := by
      have := congrArg List.length hrest
      simp at this
      omega
    subst hkn
    exact wpAny_pure ⟨by simp, h1, rfl, hsz, hkp, fun j l hj => hit j l (List.getElem?_eq_some_iff.mp hj).1 hj⟩
theorem zip_new_N (ls : List Addr) (hn : ls.length ≤ 1000000) : Meets (Builtin.«zip.__new__» ⟨.type "zip" :: ls.map Value.ref, []⟩) (fun _ R s => (∀ l ∈ ls, ∃ xs : Array Value, s.heap.IsList l xs) ∧
      ∀ h', ZS s.heap.objs.size ls 0 h' → (∀ c o, s.heap.get? c = some o → h'.get? c = some o) → R (.ok (.ret (.ref (s.heap.objs.size + ls.length + 2)))) { s with heap := h' }) :=
  .of_wp fun prog w A R s hh => by
    obtain ⟨hl, h⟩ := hh
    have hsub := sub_zip
    unfold Builtin.«zip.__new__»
    refine wpAny_bind ?_
    have hc : wpAny (model prog w) A.in1 (Builtin.SmallTypes.newClass "zip" ⟨.type "zip" :: ls.map Value.ref, []⟩) (fun r s' => r = (.type "zip", ls.map Value.ref) ∧ s' = s) (fun e s' => R (.error e) s') s := by
      unfold Builtin.SmallTypes.newClass
      repeat (any_goals (first | assumption | wp_step))
      exact ⟨rfl, rfl⟩
    refine wpAny_mono hc ?_ (fun _ _ z => z)
    rintro r s' ⟨rfl, rfl⟩
    show wpAny _ _ (Builtin.SmallTypes.iterAll (ls.map Value.ref) >>= fun its => newTuple its >>= fun t1 => newTuple (its.map fun _ => .none) >>= fun t2 => Builtin.SmallTypes.newRecord (.type "zip") (Builtin.SmallTypes.ownedTupleFields ++ [Value.bool false, t1, t2]) >>= fun r => ret r) _ _ _
    refine wpAny_bind ?_
    refine wpAny_mono (iterAll_lists ls hl) ?_ (fun _ _ z => z.elim)
    rintro its _ ⟨rfl, h1, rfl, hsz, hk, hit⟩
    refine wpAny_bind (wpAny_newTuple ?_ (by simp; unfold sizeLine; omega))
    refine wpAny_bind (wpAny_newTuple ?_ (by simp; unfold sizeLine; omega))
    refine wpAny_bind ?_
    unfold Builtin.SmallTypes.newRecord
    refine wpAny_newObj_type ?_ (by first | trivial | (simp only [sizeOk]; decide) | (simp [sizeOk]; decide))
    refine wpAny_pure ⟨_, rfl, ?_⟩
    generalize pA : h1.push { cls := .type "tuple", data := .seq ((List.range ls.length).map fun j => Value.ref (s'.heap.objs.size + j)).toArray } = hA
    have eA : hA.objs.size = s'.heap.objs.size + ls.length + 1 := by rw [← pA, Heap.size_push, hsz]
    have gA : hA.get? (s'.heap.objs.size + ls.length) = some { cls := .type "tuple", data := .seq ((List.range ls.length).map fun j => Value.ref (s'.heap.objs.size + j)).toArray } := by
      rw [← pA, ← hsz]; exact Heap.get?_push_size _ rfl
    have kA : ∀ c o, h1.get? c = some o → hA.get? c = some o := fun c o q => by rw [← pA]; exact Heap.get?_push_of_some _ q
    simp only [hsz, eA]
    generalize pB : hA.push { cls := .type "tuple", data := .seq (((List.range ls.length).map fun j => Value.ref (s'.heap.objs.size + j)).map fun _ => Value.none).toArray } = hB
    have eB : hB.objs.size = s'.heap.objs.size + ls.length + 2 := by rw [← pB, Heap.size_push, eA]
    have gB : hB.get? (s'.heap.objs.size + ls.length + 1) = some { cls := .type "tuple", data := .seq (((List.range ls.length).map fun j => Value.ref (s'.heap.objs.size + j)).map fun _ => Value.none).toArray } := by
      rw [← pB, ← eA]; exact Heap.get?_push_size _ rfl
    have kB : ∀ c o, hA.get? c = some o → hB.get? c = some o := fun c o q => by rw [← pB]; exact Heap.get?_push_of_some _ q
    simp only [eB]
    generalize pC : hB.push _ = hC
    have gC : hC.get? (s'.heap.objs.size + ls.length + 2) = some { cls := .type "zip", dict := none, data := .fields #[.none, .bool false, .bool false, .ref (s'.heap.objs.size + ls.length), .ref (s'.heap.objs.size + ls.length + 1)], slots := #[] } := by rw [← pC, ← eB]; exact Heap.get?_push_size _ rfl
    have kC : ∀ c o, hB.get? c = some o → hC.get? c = some o := fun c o q => by rw [← pC]; exact Heap.get?_push_of_some _ q
    refine h hC ⟨⟨.none, false, .inl rfl, gC⟩, kC _ _ (kB _ _ gA), ⟨_, by simp, kC _ _ gB⟩, fun j l hj => (hit j l hj).at fun o q => kC _ _ (kB _ _ (kA _ _ q))⟩ fun c o q => kC _ _ (kB _ _ (kA _ _ (hk c o q)))
theorem call_zipN {ls : List Addr} {Q : Value → Shared → Prop} (hn : ls.length = 4 ∨ ls.length = 6 ∨ ls.length = 8) (hl : ∀ l ∈ ls, ∃ xs : Array Value, s.heap.IsList l xs)
    (h : ∀ h', ZS s.heap.objs.size ls 0 h' → (∀ c o, s.heap.get? c = some o → h'.get? c = some o) → Q (.ref (s.heap.objs.size + ls.length + 2)) { s with heap := h' }) :
    wpAny (model prog w) A (call (.type "zip") (ls.map Value.ref)) Q E s := by
  have hct : checkTypeCall "zip" ⟨ls.map Value.ref, []⟩ = pure () := by
    rcases hn with q | q | q
    · exact typeCall_4 _ (by simpa using q)
    · exact typeCall_6 _ (by simpa using q)
    · exact typeCall_8 _ (by simpa using q)
  have hcn : checkBuiltinCall "zip.__new__" ⟨.type "zip" :: ls.map Value.ref, []⟩ = pure () := by
    rcases hn with q | q | q
    · exact newCall_4 _ (by simpa using q)
    · exact newCall_6 _ (by simpa using q)
    · exact newCall_8 _ (by simpa using q)
  have hin : ∀ obj, argsOk "object.__init__" ⟨obj :: ls.map Value.ref, []⟩ := by
    intro obj
    rcases hn with q | q | q
    · exact init_4 _ _ (by simpa using q)
    · exact init_6 _ _ (by simpa using q)
    · exact init_8 _ _ (by simpa using q)
  refine callType_newIn F.called_zip (by decide) hct hcn hin F.entry_zip_new ((zip_new_N ls (by omega)).inModel prog w) ⟨hl, fun h' hz hk => ?_⟩
  exact ⟨by obtain ⟨x0, f, _, q⟩ := hz.z; exact ⟨_, q, rfl⟩, h h' hz hk⟩
theorem pyNext_item {n0 : Nat} {ls : List Addr} {us : List Value} {i : Nat} {Q : Option Value → Shared → Prop} (hne : ls ≠ []) (hsz : ls.length ≤ 1000000) (st : ZS n0 ls i s.heap) (hl : us.length = ls.length) (low : ∀ l ∈ ls, (l : Nat) < n0)
    (hi : Has s.heap ls i us)
    (hQ : ∀ h', ZS n0 ls (i + 1) h' → h'.get? s.heap.objs.size = some { cls := .type "tuple", data := .seq us.toArray } → h'.objs.size = s.heap.objs.size + 1 →
      (∀ c : Nat, Out n0 ls.length c → ∀ o, s.heap.get? c = some o → h'.get? c = some o) → Q (some (.ref s.heap.objs.size)) { s with heap := h' }) :
    wpAny (model prog w) A (pyNext (.ref (n0 + ls.length + 2))) Q E s := by
  have hT : s.TypeIs (.ref (n0 + ls.length + 2)) "zip" := by obtain ⟨x0, f, _, q⟩ := st.z; exact ⟨_, q, rfl⟩
  unfold pyNext
  exact wpAny_bind (wpAny_attempt (wpAny_callSpecial?_slot (name := Str.ofString "__next__") hT F.slot_zip_next
    (wpAny_call_entry F.slot_zip_next hT F.entry_zip_next
      (next_item hne hsz st hl low hi fun h' a1 a2 a3 a4 => wpAny_pure (hQ h' a1 a2 a3 a4)) (F.args_zip_next_1 _))))
theorem pyNext_end {n0 : Nat} {ls : List Addr} {i : Nat} {Q : Option Value → Shared → Prop} (hh : A.handled = none) (hsz : ls.length ≤ 1000000) (st : ZS n0 ls i s.heap) (low : ∀ l ∈ ls, (l : Nat) < n0)
    (hls : ∀ (j : Nat) (l : Addr), ls[j]? = some l → ∃ xs : Array Value, s.heap.IsList l xs) (hend : ∃ (j : Nat) (l : Addr), ls[j]? = some l ∧ ∀ xs : Array Value, s.heap.IsList l xs → xs[i]? = none)
    (hQ : ∀ h', (∀ c : Nat, Out n0 ls.length c → ∀ o, s.heap.get? c = some o → h'.get? c = some o) → Q none { s with heap := h' }) :
    wpAny (model prog w) A (pyNext (.ref (n0 + ls.length + 2))) Q E s := by
  have hT : s.TypeIs (.ref (n0 + ls.length + 2)) "zip" := by obtain ⟨x0, f, _, q⟩ := st.z; exact ⟨_, q, rfl⟩
  unfold pyNext
  refine wpAny_bind (wpAny_attempt (wpAny_callSpecial?_slot (name := Str.ofString "__next__") hT F.slot_zip_next
    (wpAny_call_entry F.slot_zip_next hT F.entry_zip_next (next_end hh hsz st low hls hend fun h' e hk he => ?_) (F.args_zip_next_1 _))))
  obtain ⟨o, ho, hc⟩ := he
  refine wpAny_bind (wpAny_isInstance (T := "StopIteration") (b := true) ⟨o, ho, hc⟩ isSubtype_stop ?_)
  exact wpAny_pure (hQ _ hk)
/-- the step ahead of the store: the zip stays one -/
theorem go_zip {n0 : Nat} {ls : List Addr} {i : Nat} {tg : Expr} {T : Addr} {Q : Unit → Shared → Prop} (st : ZS n0 ls i s.heap) (hQ : ∀ h', ZS n0 ls i h' → Heap.SameBut (n0 + ls.length + 2) s.heap h' → Q () { s with heap := h' }) :
    wpAny (model prog w) A (letOwnedTupleGo tg (.ref (n0 + ls.length + 2)) (.ref T)) Q E s := by
  have same : Q () s := hQ s.heap st (Heap.SameBut.refl _ _)
  obtain ⟨⟨x0, f, hx0, hz⟩, hTI, hTO, hits⟩ := st
  unfold letOwnedTupleGo
  cases tg <;> first
    | exact wpAny_pure same
    | (refine wpAny_bind (wpAny_load hz ?_)
       show wpAny _ _ (if (["enumerate", "zip", "dict_itemiterator", "dict_reverseitemiterator", "odict_iterator", "itertools.zip_longest", "itertools.pairwise"].contains "zip" &&
         (#[x0, .bool f, .bool false, .ref (n0 + ls.length), .ref (n0 + ls.length + 1)] : Array Value)[0]? == some (rawInt T)) = true then _ else _) Q E s
       split
       · refine wpAny_bind (wpAny_rule ?_)
         show wpAny _ _ (setField (.ref (n0 + ls.length + 2)) 0 .none) Q E s
         refine wpAny_setField_rec hz (by simp) fun h' hz' hs' => hQ h' ⟨⟨.none, f, .inl rfl, hz'⟩, ?_, ?_, fun j l hj => ?_⟩ hs'
         · rw [hs'.2 _ (nn (by omega))]; exact hTI
         · obtain ⟨vs, hvl, hTO⟩ := hTO
           exact ⟨vs, hvl, by rw [hs'.2 _ (nn (by omega))]; exact hTO⟩
         · have hjl : j < ls.length := (List.getElem?_eq_some_iff.mp hj).1
           exact iter_of (hits j l hj) (hs'.2 _ (nn (by omega)))
       · exact wpAny_pure same)
end
/-! ### the turn -/
/-- the lists at ls as they stand at each turn, their items in a new tuple -/
def ItzN (K : PySem.W.Frag) (ls : List Addr) : It :=
  ⟨fun i H => ls ≠ [] ∧ ∃ us : List V, us.length = ls.length ∧ ∀ (j : Nat) (l : Addr) (u : V), ls[j]? = some l → us[j]? = some u → ∃ xs : List V, SqL K H l xs ∧ xs[i]? = some u,
    fun i H v H' => ∃ T us, v = .ref T ∧ H T = none ∧ H' = upd H T (.tup us) ∧ us.length = ls.length ∧ ∀ (j : Nat) (l : Addr), ls[j]? = some l → ∀ xs, SqL K H l xs → xs[i]? = us[j]?,
    fun i H => (∀ l ∈ ls, ∃ xs : List V, SqL K H l xs) ∧ ∃ l ∈ ls, ∃ xs : List V, SqL K H l xs ∧ xs.length ≤ i⟩
theorem has_vals {X : Cx} {pins : List (Addr × Obj)} {σ : L2.St} {H : Hp} {s : Shared} {i : Nat} (I : Inv X pins σ H s) : ∀ (ls : List Addr) (us : List V), us.length = ls.length → (∀ (j : Nat) (l : Addr) (u : V), ls[j]? = some l → us[j]? = some u → ∃ xs : List V, SqL X.K H l xs ∧ xs[i]? = some u) →
    ∃ ws : List Value, Vals us ws ∧ Has s.heap ls i ws
  | [], [], _, _ => ⟨[], .nil, fun j l u h => by simp at h⟩
  | [], u :: us, h, _ => by simp at h
  | l :: ls, [], h, _ => by simp at h
  | l :: ls, u :: us, hl, h => by
    obtain ⟨ws, hv, hh⟩ := has_vals I ls us (by simpa using hl) fun j l' u' h1 h2 => h (j + 1) l' u' (by simpa using h1) (by simpa using h2)
    obtain ⟨xs, q, hx⟩ := h 0 l u rfl rfl
    obtain ⟨its, rv, p, _⟩ := I.list q
    obtain ⟨w1, hw, rw1⟩ := rv.get hx
    refine ⟨w1 :: ws, .cons rw1 hv, fun j l' u' h1 h2 => ?_⟩
    cases j with
    | zero =>
      simp at h1 h2
      subst h1 h2
      exact ⟨_, p.isList, by simpa using hw⟩
    | succ j => exact hh j l' u' (by simpa using h1) (by simpa using h2)
def fpN (n0 n : Nat) : List Addr := (List.range (n + 3)).map (n0 + ·)
theorem mem_fpN {n0 n c : Nat} : c ∈ fpN n0 n ↔ ¬ Out n0 n c := by
  unfold fpN Out
  simp only [List.mem_map, List.mem_range]
  constructor
  · rintro ⟨j, hj, rfl⟩; omega
  · intro h; exact ⟨c - n0, by omega, by omega⟩
theorem turn_zipN {P : Program} {w : World} {K : PySem.W.Frag} {tg : Expr} {n0 : Nat} {ls : List Addr} (hsz : ls.length ≤ 1000000) (low : ∀ l ∈ ls, (l : Nat) < n0) :
    Turn P w K tg (ItzN K ls) (fpN n0 ls.length) (n0 + ls.length + 2 : Nat) (fun i h => ZS n0 ls i h) where
  mem := mem_fpN.mpr (by unfold Out; omega)
  obj := fun i h st c0 hc => by
    obtain ⟨c, rfl⟩ : ∃ c : Nat, c = c0 := ⟨c0, rfl⟩
    have hc := mem_fpN.mp hc
    obtain ⟨⟨x0, f, hx0, hz⟩, hTI, ⟨vs, hvl, hTO⟩, hits⟩ := st
    have h4 : (c : Nat) = n0 + ls.length + 2 ∨ (c : Nat) = n0 + ls.length ∨ (c : Nat) = n0 + ls.length + 1 ∨ ∃ j, j < ls.length ∧ (c : Nat) = n0 + j := by
      unfold Out at hc
      by_cases h1 : (c : Nat) < n0 + ls.length
      · exact .inr (.inr (.inr ⟨(c : Nat) - n0, by omega, by omega⟩))
      · omega
    rcases h4 with rfl | rfl | rfl | ⟨j, hj, rfl⟩
    · exact ⟨_, hz, fun v q => nomatch q⟩
    · exact ⟨_, hTI, fun v q => nomatch q⟩
    · exact ⟨_, hTO, fun v q => nomatch q⟩
    · obtain ⟨o1, e1, _, d1⟩ := hits j ls[j] (List.getElem?_eq_getElem hj)
      exact ⟨o1, e1, fun v q => by rw [d1] at q; cases q⟩
  keep := fun i h h' st k => by
    obtain ⟨⟨x0, f, hx0, hz⟩, hTI, ⟨vs, hvl, hTO⟩, hits⟩ := st
    refine ⟨⟨x0, f, hx0, k _ (mem_fpN.mpr (by unfold Out; omega)) _ hz⟩, k _ (mem_fpN.mpr (by unfold Out; omega)) _ hTI, ⟨vs, hvl, k _ (mem_fpN.mpr (by unfold Out; omega)) _ hTO⟩, fun j l hj => ?_⟩
    have hjl : j < ls.length := (List.getElem?_eq_some_iff.mp hj).1
    exact (hits j l hj).at fun o q => k _ (mem_fpN.mpr (by unfold Out; omega)) o q
  item := by
    intro X hP hw hK hc i pins s σ H E I hf st hg
    subst hP hw hK
    obtain ⟨hne, us, hul, hus⟩ := hg
    obtain ⟨ws, rws, has⟩ := has_vals I ls us hul hus
    have hwl : ws.length = ls.length := by rw [← rws.length]; exact hul
    have hb : s.heap.objs.size > n0 + ls.length + 2 := by obtain ⟨x0, f, _, q⟩ := st.z; exact Heap.lt_size q
    refine pyNext_item hne hsz st hwl low has fun h' st' hT hsz' hk => ?_
    refine ⟨_, rfl, go_zip (s := { s with heap := h' }) st' fun h'' st'' sb => ?_⟩
    have hT2 : h''.get? s.heap.objs.size = some { cls := .type "tuple", data := .seq ws.toArray } := (sb.2 _ (nn (by omega))).trans hT
    have new : ObjOk X.prog X.w (upd H s.heap.objs.size (.tup us)) h'' s.heap.objs.size (.tup us) :=
      ⟨by rw [hul]; unfold sizeLine; omega, ws, rws, ⟨_, hT2, rfl, _, rfl⟩⟩
    have I1 : Inv X pins σ (upd H s.heap.objs.size (.tup us)) { s with heap := h'' } :=
      I.turnedNew (t' := s.toks) (ch := fpN n0 ls.length) (fun c0 o hb' q => by
        obtain ⟨c, rfl⟩ : ∃ c : Nat, c = c0 := ⟨c0, rfl⟩
        have hc' : Out n0 ls.length c := Classical.byContradiction fun z => hb' (mem_fpN.mpr z)
        have hc2 := hc'
        unfold Out at hc2
        exact (sb.2 c (nn (by omega))).trans (hk c hc' o q)) hf (Nat.le_refl _) new
    refine ⟨.ref s.heap.objs.size, _, I1, rfl, ⟨_, us, rfl, I.hok.fresh (Nat.le_refl _), rfl, hul, fun j l hj xs hq => ?_⟩, st'', fun c0 hcm => ?_⟩
    · have hjl : j < ls.length := (List.getElem?_eq_some_iff.mp hj).1
      obtain ⟨u, hu⟩ : ∃ u, us[j]? = some u := ⟨_, List.getElem?_eq_getElem (by omega)⟩
      obtain ⟨ys, q', hy⟩ := hus j l u hj hu
      rw [I.list_inj hq q', hy, hu]
    · obtain ⟨c, rfl⟩ : ∃ c : Nat, c = c0 := ⟨c0, rfl⟩
      have hc := mem_fpN.mp hcm
      have hlt : (c : Nat) < s.heap.objs.size := by unfold Out at hc; omega
      rw [upd_ne (Nat.ne_of_lt hlt)]
      exact (hf c hcm).1
  done := by
    intro X hP hw hK hc i pins s σ H E I hf st hg
    subst hP hw hK
    obtain ⟨hall, l0, hl0, xs0, q0, hle⟩ := hg
    refine pyNext_end (I.ok.hd hc) hsz st low (fun j l hj => ?_) ?_ fun h' hk => ⟨rfl, I.turnedL (t' := s.toks) (ch := fpN n0 ls.length) (fun c o hb' q => hk c (Classical.byContradiction fun z => hb' (mem_fpN.mpr z)) o q) hf⟩
    · obtain ⟨xs, q⟩ := hall l (List.mem_of_getElem? hj)
      obtain ⟨its, rv, p, _⟩ := I.list q
      exact ⟨_, p.isList⟩
    · obtain ⟨j, hj⟩ := List.getElem?_of_mem hl0
      refine ⟨j, l0, hj, fun xs hxs => ?_⟩
      obtain ⟨its, rv, p, _⟩ := I.list q0
      have l1 := rv.length
      have e : xs = its.toArray := by
        obtain ⟨o1, h1, c1, n1, d1⟩ := hxs
        obtain ⟨o2, h2, c2, n2, d2⟩ := p.isList
        rw [h1] at h2
        cases h2
        rw [d1] at d2
        cases d2
        rfl
      subst e
      simp
      omega
  self := fun A i s Q E st h => by
    obtain ⟨x0, f, _, q⟩ := st.z
    have hT : s.TypeIs (.ref (n0 + ls.length + 2 : Nat)) "zip" := ⟨_, q, rfl⟩
    refine wpAny_pyIter_slot hT F.slot_zip_iter (wpAny_call_entry F.slot_zip_iter hT F.entry_zip_iter ?_ (F.args_zip_iter_1 _))
    show wpAny _ _ (ret (.ref _)) _ _ s
    exact wpAny_pure ⟨_, rfl, "zip", _, hT, F.slot_zip_next.lookup, h⟩
theorem callWith_typeS {M : Model} {A : Around} {E : Value → Shared → Prop} {s : Shared} {pos p : Pos} {T : String} {env : Env} {e : Expr} {Q : Value → Shared → Prop}
    (h : wpAny M A (eval e env) (fun v s₁ => PySem.W.StarOf M A E v (fun vs s₂ => wpAny M A (call (.type T) vs) Q E s₂) s₁) E s) (he : starEach [.Starred e p] env = [(true, eval e env)] := by rfl) :
    wpAny M A (callWith pos (.type T) [] (backTo pos (starEach [.Starred e p] env)) []) Q E s := by
  rw [he]
  have h2 := PySem.W.ks_lone (f := .type T) (pos := pos) (Q := fun a s₂ => wpAny M A (call (.type T) a.pos a.kw) Q E s₂) h
  unfold callWith
  refine wpAny_bind (wpAny_holding (wpAny_mono h2 (fun a s₁ h₁ => wpAny_bind (wpAny_standAt ?_)) fun _ _ x => x))
  refine wpAny_bind (wpAny_pure ?_)
  refine wpAny_bind ?_
  refine wpAny_mono (PySem.wpAny_operating h₁) (fun r s₂ hr => wpAny_bind (wpAny_holding (wpAny_point (wpAny_pure hr)))) fun _ _ x => x
def iZipN (K : PySem.W.Frag) (te : TE) : TI := fun σ H R => te σ H fun v H1 => ∃ (a : Addr) (ls : List Addr), v = V.ref a ∧ SqL K H1 a (ls.map V.ref) ∧ (ls.length = 4 ∨ ls.length = 6 ∨ ls.length = 8) ∧ (∀ l ∈ ls, ∃ xs : List V, SqL K H1 l xs) ∧ R (ItzN K ls) H1
theorem vals_refs : ∀ {ls : List Addr} {us : List Value}, Vals (ls.map V.ref) us → us = ls.map Value.ref
  | [], _, h => by cases h; rfl
  | l :: ls, _, h => by
    cases h with
    | cons a r => rw [vals_refs r]; cases a; rfl
theorem pi_zipN {X : Cx} {K : PySem.W.Frag} {e tg : Expr} {te : TE} {p sp_ pos : Pos} (hg : Gl X "zip") (hm : X.mg "zip" = none) (he : PE X e te) (hK : X.K = K := by rfl) (hst : starEach [.Starred e sp_] X.env = [(true, eval e X.env)] := by rfl) :
    PI X tg (.Call (.Name "zip" p) [.Starred e sp_] [] pos) (iZipN K te) := by
  subst hK
  refine ⟨fun pins s σ H R I h => ?_⟩
  refine Call_ (ld_blt I hg hm PyProof.Rows.boot_zip (callWith_typeS (thn (he.run pins s σ H _ I h) fun v s1 ⟨y, H1, I1, ry, a, ls, ey, hx, hn, hls, q⟩ => ?_) hst))
  subst ey
  obtain rfl : v = Value.ref a := ry
  refine StX.star_any I1 (.inr hx) fun us s2 I2 rv => ?_
  obtain rfl := vals_refs rv
  have hlists : ∀ l ∈ ls, ∃ xs : Array Value, s2.heap.IsList l xs := fun l hl => by
    obtain ⟨xs, q⟩ := hls l hl
    obtain ⟨its, rv, pl, _⟩ := I2.list q
    exact ⟨_, pl.isList⟩
  have hlow : ∀ l ∈ ls, (l : Nat) < s2.heap.objs.size := fun l hl => by
    obtain ⟨xs, q⟩ := hls l hl
    obtain ⟨its, rv, pl, _⟩ := I2.list q
    exact pl.lt
  refine call_zipN hn hlists fun h' hz hk => ?_
  have I3 : Inv X pins σ H1 { s2 with heap := h' } := I2.kept (t' := s2.toks) hk
  have T := turn_zipN (P := X.prog) (w := X.w) (K := X.K) (tg := tg) (n0 := s2.heap.objs.size) (ls := ls) (by omega) hlow
  refine T.self X.A 0 { s2 with heap := h' } _ _ hz ?_
  refine ⟨_, _, _, _, H1, rfl, I3, T, hz, fun b hb => ?_, q⟩
  have hc := mem_fpN.mp hb
  have hle : s2.heap.objs.size ≤ b := by
    obtain ⟨c, rfl⟩ : ∃ c : Nat, c = b := ⟨b, rfl⟩
    unfold Out at hc
    omega
  exact I2.fpOk hle (I2.hok.fresh hle)
end Vz
namespace Vx
open PySem PySem.Spec PyProof.Rows L2
/-- the length of the shortest row -/
def minLen : List (List Int) → Nat
  | [] => 0
  | [x] => x.length
  | x :: r => min x.length (minLen r)
def colOf (xss : List (List Int)) (i : Nat) : List Int := xss.map fun r => itD r (i : Int)
/-- zip(*rows) -/
def zipRows (xss : List (List Int)) : List (List Int) := (List.range (minLen xss)).map (colOf xss)
theorem minLen_le : ∀ {xss : List (List Int)} {xs : List Int}, xs ∈ xss → minLen xss ≤ xs.length
  | [x], xs, h => by
    simp at h
    subst h
    exact Nat.le_refl _
  | x :: y :: r, xs, h => by
    rcases List.mem_cons.mp h with rfl | h
    · exact Nat.min_le_left _ _
    · exact Nat.le_trans (Nat.min_le_right _ _) (minLen_le h)
theorem minLen_at : ∀ {xss : List (List Int)}, xss ≠ [] → ∃ xs ∈ xss, xs.length = minLen xss
  | [x], _ => ⟨x, List.mem_cons_self, rfl⟩
  | x :: y :: r, _ => by
    obtain ⟨z, hz, e⟩ := minLen_at (xss := y :: r) (by simp)
    by_cases h : x.length ≤ minLen (y :: r)
    · exact ⟨x, List.mem_cons_self, by show _ = min _ _; omega⟩
    · exact ⟨z, List.mem_cons_of_mem _ hz, by show _ = min _ _; omega⟩
theorem zipRows_len (xss : List (List Int)) : (zipRows xss).length = minLen xss := by simp [zipRows]
theorem zipRows_get {xss : List (List Int)} {i : Nat} (h : i < minLen xss) : (zipRows xss)[i]? = some (colOf xss i) := by
  simp [zipRows, List.getElem?_range h]
/-- the rows stand at ls -/
def RowsAt (K : PySem.W.Frag) (H : Hp) (ls : List Addr) (xss : List (List Int)) : Prop :=
  ls.length = xss.length ∧ ∀ (j : Nat) (l : Addr) (xs : List Int), ls[j]? = some l → xss[j]? = some xs → SqL K H l (xs.map V.int)
theorem RowsAt.all {K : PySem.W.Frag} {H : Hp} {ls : List Addr} {xss : List (List Int)} (r : RowsAt K H ls xss) : ∀ l ∈ ls, ∃ xs : List V, SqL K H l xs := fun l hl => by
  obtain ⟨j, hj⟩ := List.getElem?_of_mem hl
  have hjl : j < ls.length := (List.getElem?_eq_some_iff.mp hj).1
  have hjx : j < xss.length := by rw [← r.1]; exact hjl
  exact ⟨_, r.2 j l xss[j] hj (List.getElem?_eq_getElem hjx)⟩
theorem walk_zipN {K : PySem.W.Frag} {ls : List Addr} {xss : List (List Int)} (hne : xss ≠ []) :
    Walk (Vz.ItzN K ls) (minLen xss) (fun H => RowsAt K H ls xss) (fun i H v H' => ∃ T, v = .ref T ∧ H T = none ∧ H' = upd H T (.tup ((colOf xss i).map V.int))) := by
  refine ⟨fun i H hi q => ?_, fun H q => ?_, fun i H x H' hi q y => ?_⟩
  · have hl : ls ≠ [] := fun z => hne (by have := q.1; rw [z] at this; exact List.length_eq_zero_iff.mp this.symm)
    refine ⟨hl, (colOf xss i).map V.int, by simp [colOf, q.1], fun j l u h1 h2 => ?_⟩
    have hj : j < xss.length := by rw [← q.1]; exact (List.getElem?_eq_some_iff.mp h1).1
    have hx : xss[j]? = some xss[j] := List.getElem?_eq_getElem hj
    refine ⟨_, q.2 j l _ h1 hx, ?_⟩
    have hlt : i < xss[j].length := Nat.lt_of_lt_of_le hi (minLen_le (List.getElem_mem hj))
    rw [List.getElem?_map] at h2
    unfold colOf at h2
    rw [List.getElem?_map, hx] at h2
    rw [List.getElem?_map]
    simp at h2
    rw [List.getElem?_eq_getElem hlt, ← h2]
    have : itD xss[j] (i : Int) = xss[j][i] := by
      unfold itD
      rw [atI_nat (List.getElem?_eq_getElem hlt)]
      rfl
    simp [this]
  · refine ⟨q.all, ?_⟩
    obtain ⟨xs, hm, e⟩ := minLen_at hne
    obtain ⟨j, hj⟩ := List.getElem?_of_mem hm
    have hjl : j < ls.length := by rw [q.1]; exact (List.getElem?_eq_some_iff.mp hj).1
    exact ⟨ls[j], List.getElem_mem hjl, _, q.2 j _ xs (List.getElem?_eq_getElem hjl) hj, by simp [e]⟩
  · obtain ⟨T, us, rfl, hT, rfl, hul, hus⟩ := y
    refine ⟨T, rfl, hT, ?_⟩
    congr 2
    apply List.ext_getElem?
    intro j
    by_cases hj : j < xss.length
    · have hjl : j < ls.length := by rw [q.1]; exact hj
      have := hus j ls[j] (List.getElem?_eq_getElem hjl) _ (q.2 j _ xss[j] (List.getElem?_eq_getElem hjl) (List.getElem?_eq_getElem hj))
      rw [← this]
      have hlt : i < xss[j].length := Nat.lt_of_lt_of_le hi (minLen_le (List.getElem_mem hj))
      have hh : itD xss[j] (i : Int) = xss[j][i] := by
        unfold itD
        rw [atI_nat (List.getElem?_eq_getElem hlt)]
        rfl
      unfold colOf
      rw [List.getElem?_map, List.getElem?_eq_getElem hlt, List.getElem?_map, List.getElem?_map, List.getElem?_eq_getElem hj]
      simp [hh]
    · rw [List.getElem?_eq_none (by rw [hul, q.1]; omega), List.getElem?_eq_none (by simp [colOf]; omega)]
/-- rows of data that stays -/
theorem rows_rp {K : PySem.W.Frag} {G H : Hp} (e : Same G H) : ∀ {vs : List V} {xss : List (List Int)}, RpAll G vs (xss.map (encL PyData.int)) → ∃ ls, vs = ls.map V.ref ∧ RowsAt K H ls xss
  | _, [], h => by cases h; exact ⟨[], rfl, rfl, fun j l xs h1 _ => by simp at h1⟩
  | _, xs :: r, h => by
    cases h with
    | cons r1 rr =>
      obtain ⟨ls, rfl, h1, h2⟩ := rows_rp (K := K) e rr
      obtain ⟨a, rfl, ha⟩ := rp_ints r1
      refine ⟨a :: ls, rfl, by simp [h1], fun j l ys q1 q2 => ?_⟩
      cases j with
      | zero =>
        simp at q1 q2
        subst q1 q2
        exact SqL.of (e _ _ ha)
      | succ j => exact h2 j l ys (by simpa using q1) (by simpa using q2)
/-- rows of a tree of one's own -/
theorem rows_ow {K : PySem.W.Frag} {G H : Hp} {L : List Addr} {vs : List V} {xss : List (List Int)} (e : Same G H) (w : OwAll G H L vs (xss.map (oL oI))) : ∃ ls, vs = ls.map V.ref ∧ RowsAt K H ls xss :=
  rows_rp (Same.refl H) (w.rpA (encO_L encO_I) e)
/-- the same rows later -/
theorem RowsAt.again {K : PySem.W.Frag} {H : Hp} {ls : List Addr} {xss : List (List Int)} {vs : List V} (h1 : vs = ls.map V.ref) (h2 : ∃ ls', vs = ls'.map V.ref ∧ RowsAt K H ls' xss) : RowsAt K H ls xss := by
  obtain ⟨ls', e, r⟩ := h2
  have : ls' = ls := by
    have q := h1.symm.trans e
    have inj : ∀ {a b : List Addr}, a.map V.ref = b.map V.ref → a = b := by
      intro a
      induction a with
      | nil => intro b h; cases b with | nil => rfl | cons _ _ => cases h
      | cons x r ih => intro b h; cases b with | nil => cases h | cons y s => simp at h; rw [h.1, ih (by simpa using h.2)]
    exact (inj q).symm
  rw [this] at r
  exact r
/-- a comprehension over zip(*rows) -/
theorem lc_zipN {K : PySem.W.Frag} {ls : List Addr} {xss : List (List Int)} {g : TG} {tt : TT} {te : TE} {vs : List Nat} {σ : L2.St} {H1 : Hp} {D : Addr} {Qd : Hp → Prop} (hne : xss ≠ []) (Pv : Nat → Hp → Prop) (h0 : Pv 0 (upd H1 D (.lst []))) (hq : ∀ i H, i ≤ minLen xss → Pv i H → RowsAt K H ls xss)
    (hs : ∀ (i : Nat) (T : Addr) (H : Hp), i < minLen xss → H T = none → Pv i H → g (.ref T) (wipe σ vs) (upd H T (.tup ((colOf xss i).map V.int))) fun σ2 H2 => wipe σ2 vs = wipe σ vs ∧ tt σ2 H2 fun b H3 =>
      if b = true then te σ2 H3 fun y H4 => ∃ acc, H4 D = some (.lst acc) ∧ acc.length < sizeLine ∧ Pv (i + 1) (upd H4 D (.lst (acc ++ [y]))) else Pv (i + 1) H3) (hd : ∀ H, Pv (minLen xss) H → Qd H) :
    ∃ W : Nat → Nat → Hp → Prop, (∃ m, W 0 m (upd H1 D (.lst []))) ∧ ∀ i m H, W i m H →
      ((Vz.ItzN K ls).stop i H ∧ Qd H) ∨ ((Vz.ItzN K ls).go i H ∧ ∃ Nx : Hp → Prop, (∀ H', Nx H' → ∃ m', m' < m ∧ W (i + 1) m' H') ∧ ∀ x H', (Vz.ItzN K ls).yld i H x H' → g x (wipe σ vs) H' fun σ2 H2 => wipe σ2 vs = wipe σ vs ∧ tt σ2 H2 fun b H3 =>
        if b = true then te σ2 H3 fun y H4 => ∃ acc, H4 D = some (.lst acc) ∧ acc.length < sizeLine ∧ Nx (upd H4 D (.lst (acc ++ [y]))) else Nx H3) := by
  refine lc_it (walk_zipN hne) Pv h0 hq (fun i x H H' hi p y => ?_) hd
  obtain ⟨T, rfl, hT, rfl⟩ := y
  exact hs i T H hi hT p
end Vx
/-! # lists stored into trees -/
namespace Vx
open PySem PySem.Spec PyProof.Rows L2
section
variable {G H I : Hp} {α : Type} {f : α → Dt} {L : List Addr} {vs : List V} {xs : List α}
theorem OwAll.set {L1 : List Addr} {v : V} {d : Dt} (h : Ow G H L1 v d) : ∀ {L : List Addr} {vs : List V} {ds : List Dt} (i : Nat), i < ds.length → OwAll G H L vs ds → (∀ b ∈ L1, b ∉ L) → ∃ L', (∀ b ∈ L', b ∈ L ++ L1) ∧ OwAll G H L' (vs.set i v) (ds.set i d)
  | _, _, _, _, hi, .nil, _ => absurd hi (Nat.not_lt_zero _)
  | _, _, _, 0, _, .cons (L1 := La) (L2 := Lb) a r n, nf => by
    refine ⟨L1 ++ Lb, fun b hb => ?_, .cons h r fun b hb q => nf b hb (List.mem_append_right _ q)⟩
    rcases List.mem_append.mp hb with q | q
    · exact List.mem_append_right _ q
    · exact List.mem_append_left _ (List.mem_append_right _ q)
  | _, _, _, i + 1, hi, .cons (L1 := La) (L2 := Lb) a r n, nf => by
    obtain ⟨L', s, w⟩ := OwAll.set h i (Nat.lt_of_succ_lt_succ hi) r fun b hb q => nf b hb (List.mem_append_right _ q)
    refine ⟨La ++ L', fun b hb => ?_, .cons a w fun b hb q => ?_⟩
    · rcases List.mem_append.mp hb with q | q
      · exact List.mem_append_left _ (List.mem_append_left _ q)
      · rcases List.mem_append.mp (s b q) with z | z
        · exact List.mem_append_left _ (List.mem_append_right _ z)
        · exact List.mem_append_right _ z
    · rcases List.mem_append.mp (s b q) with z | z
      · exact n b hb z
      · exact nf b z (List.mem_append_left _ hb)
theorem ixN_len {k : Int} (e : vs.length = xs.length) (h : -(xs.length : Int) ≤ k ∧ k < xs.length) : ixN vs.length k = some ((ixN vs.length k).getD 0) := by
  rw [e]
  obtain ⟨j, hj, _⟩ := ixN_some h
  rw [hj]
  rfl
theorem OwAll.setM {k : Int} {L1 : List Addr} {v : V} {y : α} (w : OwAll G H L vs (xs.map f)) (h : -(xs.length : Int) ≤ k ∧ k < xs.length) (ow : Ow G H L1 v (f y)) (n : ∀ b ∈ L1, b ∉ L) :
    ∃ L', (∀ b ∈ L', b ∈ L ++ L1) ∧ OwAll G H L' (vs.set ((ixN vs.length k).getD 0) v) ((setL xs k y).map f) := by
  obtain ⟨j, e, hj⟩ := ixN_some h
  obtain ⟨L', s, z⟩ := OwAll.set ow j (by simpa using hj) w n
  refine ⟨L', s, ?_⟩
  unfold setL
  rw [w.lenM, e, List.map_set]
  exact z
end
theorem ne_of_len {α : Type} {xs : List α} (h : xs.length = 4 ∨ xs.length = 6 ∨ xs.length = 8) : xs ≠ [] := by
  rintro rfl
  simp at h
end Vx
namespace Vx
open PySem PySem.Spec PyProof.Rows L2
/-! ### written dicts of ints -/
inductive EI : List (Int × Int) → List DictEntry → Prop
  | nil : EI [] []
  | cons {k v : Int} {t u : Tok} {r : List (Int × Int)} {es : List DictEntry} (h : EI r es) : EI ((k, v) :: r) (⟨hashInt k, .int k t, .int v u⟩ :: es)
def lookI : List (Int × Int) → Int → Option Int
  | [], _ => none
  | (k, v) :: r, i => if i = k then some v else lookI r i
def KDI (K : PySem.W.Frag) (a : Addr) (kvs : List (Int × Int)) : Prop :=
  ∃ es n, K.lookup a = some ⟨.type "dict", none, .dict es n, #[]⟩ ∧ (a == sysModules) = false ∧ EI kvs es.toList
theorem lookI_mem {kvs : List (Int × Int)} {i : Int} : (lookI kvs i).isSome = decide (i ∈ kvs.map (·.1)) := by
  induction kvs with
  | nil => rfl
  | cons p r ih =>
    obtain ⟨k, v⟩ := p
    unfold lookI
    by_cases q : i = k
    · rw [if_pos q]; simp [q]
    · rw [if_neg q, ih]; simp [q]
theorem EI.find {i : Int} : ∀ {kvs : List (Int × Int)} {es : List DictEntry}, EI kvs es → match lookI kvs i with
    | some v => ∃ u, (es.find? fun e => keyIs (.inl i) e.key).map (·.val) = some (.int v u)
    | none => (es.find? fun e => keyIs (.inl i) e.key).map (·.val) = none
  | _, _, .nil => rfl
  | _, _, .cons (k := k) (v := v) (t := t) (u := u) (r := r) (es := es) h => by
    have ih := EI.find (i := i) h
    unfold lookI
    by_cases q : i = k
    · subst q
      rw [if_pos rfl]
      refine ⟨u, ?_⟩
      rw [List.find?_cons_of_pos (by exact keyIs_int i t)]
      rfl
    · rw [if_neg q]
      have e : ¬ (keyIs (.inl i) (Value.int k t) = true) := by
        intro z
        obtain ⟨t', e'⟩ := Value.isInt_shape (k := i) (v := Value.int k t) z
        injection e' with e1 _
        exact q e1.symm
      rw [List.find?_cons_of_neg (by exact e)]
      exact ih
theorem EI.keys {P : Program} {w : World} : ∀ {kvs : List (Int × Int)} {es : List DictEntry}, EI kvs es → ∀ e ∈ es, ∃ k, (mixKind P w).is k e.key = true ∧ e.hash = (mixKind P w).hash k
  | _, _, .nil, e, he => nomatch he
  | _, _, .cons (k := k) (t := t) h, e, he => by
    rcases List.mem_cons.mp he with rfl | he
    · exact ⟨.inl k, keyIs_int k t, rfl⟩
    · exact EI.keys h e he
section
variable {X : Cx} {K : PySem.W.Frag}
theorem KDI.map {d : Addr} {kvs : List (Int × Int)} {pins : List (Addr × Obj)} {σ : L2.St} {H : Hp} {s : Shared} (D : KDI X.K d kvs) (I : Inv X pins σ H s) : (d == sysModules) = false ∧ ∃ f, s.heap.MapOf (mixKind X.prog X.w) d f ∧ ∀ i, match lookI kvs i with
    | some v => ∃ u, f (.inl i) = some (.int v u)
    | none => f (.inl i) = none := by
  obtain ⟨es, n, hl, hd, he⟩ := D
  refine ⟨hd, fun k => findBy keyIs es k, ⟨_, es, n, I.kIn _ _ hl, ⟨rfl, rfl, rfl⟩, rfl, fun e q => EI.keys he e (Array.mem_toList_iff.mpr q), fun _ => rfl⟩, fun i => ?_⟩
  have := EI.find (i := i) he
  have e : findBy keyIs es (.inl i) = (es.toList.find? fun e => keyIs (.inl i) e.key).map (·.val) := by
    obtain ⟨l⟩ := es
    unfold findBy
    rw [List.find?_toArray]
  show match lookI kvs i with
    | some v => ∃ u, findBy keyIs es (.inl i) = some (.int v u)
    | none => findBy keyIs es (.inl i) = none
  rw [e]
  exact this
def rInDI (K : PySem.W.Frag) : R2 := fun x y H Q => ∃ (i : Int) (d : Addr) (kvs : List (Int × Int)) (ks : List Int), x = .int i ∧ y = .ref d ∧ KDI K d kvs ∧ ks = kvs.map (·.1) ∧ Q (.bl (decide (i ∈ ks))) H
def rNotInDI (K : PySem.W.Frag) : R2 := fun x y H Q => ∃ (i : Int) (d : Addr) (kvs : List (Int × Int)) (ks : List Int), x = .int i ∧ y = .ref d ∧ KDI K d kvs ∧ ks = kvs.map (·.1) ∧ Q (.bl (!decide (i ∈ ks))) H
def rIxDI (K : PySem.W.Frag) : R2 := fun x y H Q => ∃ (d : Addr) (i v : Int) (kvs : List (Int × Int)), x = .ref d ∧ y = .int i ∧ KDI K d kvs ∧ lookI kvs i = some v ∧ Q (.int v) H
theorem op_inDI (hK : X.K = K := by rfl) : OpR X (compareOp .In) (rInDI K) := by
  subst hK
  intro pins s σ H x y v u Q I rx ry h
  obtain ⟨i, d, kvs, ks, rfl, rfl, D, rfl, q⟩ := h
  rw [← lookI_mem] at q
  obtain ⟨t, rfl⟩ := rx
  cases ry
  obtain ⟨hd, f, hm, hf⟩ := D.map I
  refine wpAny_in_of (knd := mixKind X.prog X.w) (kV_is (k := .inl i) ⟨t, rfl⟩) hd hm ?_
  have e : (f (.inl i)).isSome = (lookI kvs i).isSome := by
    have := hf i
    split at this
    · next v hv => obtain ⟨u, hu⟩ := this; rw [hu, hv]; rfl
    · next hv => rw [this, hv]; rfl
  rw [e]
  exact ⟨.bl (lookI kvs i).isSome, H, I.tok _, rfl, q⟩
theorem op_notInDI (hK : X.K = K := by rfl) : OpR X (compareOp .NotIn) (rNotInDI K) := by
  subst hK
  intro pins s σ H x y v u Q I rx ry h
  obtain ⟨i, d, kvs, ks, rfl, rfl, D, rfl, q⟩ := h
  rw [← lookI_mem] at q
  obtain ⟨t, rfl⟩ := rx
  cases ry
  obtain ⟨hd, f, hm, hf⟩ := D.map I
  refine wpAny_notIn_of (knd := mixKind X.prog X.w) (kV_is (k := .inl i) ⟨t, rfl⟩) hd hm ?_
  have e : (f (.inl i)).isSome = (lookI kvs i).isSome := by
    have := hf i
    split at this
    · next v hv => obtain ⟨u, hu⟩ := this; rw [hu, hv]; rfl
    · next hv => rw [this, hv]; rfl
  rw [e]
  exact ⟨.bl (!(lookI kvs i).isSome), H, I.tok _, rfl, q⟩
theorem ix_DI (hK : X.K = K := by rfl) : IxR X (rIxDI K) := by
  subst hK
  intro value slice pins s σ H x y v u Q I rx ry h hs
  obtain ⟨p, i, r, kvs, rfl, rfl, D, e, q⟩ := h
  obtain rfl : v = Value.ref p := rx
  obtain ⟨t, rfl⟩ := ry
  obtain ⟨hd, f, hm, hf⟩ := D.map I
  have := hf i
  rw [e] at this
  obtain ⟨u, hu⟩ := this
  exact tail_any hm.typeIs slot_dict_getitem.lookup (wpAny_getItem_of (knd := mixKind X.prog X.w) (kV_is (k := .inl i) ⟨t, rfl⟩) hm hu ⟨.int r, H, I.tok _, ⟨_, rfl⟩, q⟩) hs
end
/-- the value at a key that is there -/
def dictI (kvs : List (Int × Int)) (i : Int) : Int := (lookI kvs i).getD 0
theorem lookI_at {kvs : List (Int × Int)} {i : Int} (h : i ∈ kvs.map (·.1)) : lookI kvs i = some (dictI kvs i) := by
  have := lookI_mem (kvs := kvs) (i := i)
  rw [decide_eq_true h] at this
  unfold dictI
  cases e : lookI kvs i with
  | none => rw [e] at this; cases this
  | some v => rfl
/-! ### walks over two lists, over numbered items, backwards -/
theorem pi_enumK {X : Cx} {K : PySem.W.Frag} {e : Expr} {ta : TA} {p pos tpos : Pos} {elts : List Expr} {kk : Nat} (hg : Gl X "enumerate") (hm : X.mg "enumerate" = none) (ha : PA X [e] ta) (hK : X.K = K := by rfl) (hs : starEach [e] X.env = [(false, eval e X.env)] := by rfl) :
    PI X (.Tuple elts kk tpos) (.Call (.Name "enumerate" p) [e] [] pos) (iEnum K ta) := hK ▸ pi_enum hg hm ha hs
section
variable {K : PySem.W.Frag} {a b : Addr} {xs ys : List V} {g : TG} {tb : TS} {tt : TT} {te : TE} {D : Ends} {σ : L2.St} {H H1 : Hp} {vs : List Nat} {DD : Addr} {Qd : Hp → Prop}
theorem for_enum (Pv : Nat → L2.St → Hp → Prop) (h0 : Pv 0 σ H) (hq : ∀ i σ H, Pv i σ H → SqL K H a xs)
    (hs : ∀ (i : Nat) (y : V) (T : Addr) (σ : L2.St) (H : Hp), xs[i]? = some y → H T = none → Pv i σ H → g (.ref T) σ (upd H T (.tup [.int (i : Nat), y])) fun σ2 H2 => tb { D with nx := Pv (i + 1), ct := Pv (i + 1), bk := D.nx } σ2 H2) (hd : ∀ σ H, Pv xs.length σ H → D.nx σ H) :
    ∃ W : Nat → Nat → L2.St → Hp → Prop, (∃ m, W 0 m σ H) ∧ ∀ i m σ H, W i m σ H →
      ((Ite K a).stop i H ∧ D.nx σ H) ∨ ((Ite K a).go i H ∧ ∃ N : L2.St → Hp → Prop, (∀ σ' H', N σ' H' → ∃ m', m' < m ∧ W (i + 1) m' σ' H') ∧ ∀ v H', (Ite K a).yld i H v H' → g v σ H' fun σ2 H2 => tb { D with nx := N, ct := N, bk := D.nx } σ2 H2) := by
  refine for_it walk_enum Pv h0 (fun i σ H _ p => hq i σ H p) (fun i x σ H H' hi p y => ?_) hd
  obtain ⟨T, x1, y1, rfl, hT, rfl, h1, h2⟩ := y
  cases h1
  exact hs i y1 T σ H h2 hT p
theorem lc_enum (Pv : Nat → Hp → Prop) (h0 : Pv 0 (upd H1 DD (.lst []))) (hq : ∀ i H, i ≤ xs.length → Pv i H → SqL K H a xs)
    (hs : ∀ (i : Nat) (y : V) (T : Addr) (H : Hp), xs[i]? = some y → H T = none → Pv i H → g (.ref T) (wipe σ vs) (upd H T (.tup [.int (i : Nat), y])) fun σ2 H2 => wipe σ2 vs = wipe σ vs ∧ tt σ2 H2 fun b H3 =>
      if b = true then te σ2 H3 fun y H4 => ∃ acc, H4 DD = some (.lst acc) ∧ acc.length < sizeLine ∧ Pv (i + 1) (upd H4 DD (.lst (acc ++ [y]))) else Pv (i + 1) H3) (hd : ∀ H, Pv xs.length H → Qd H) :
    ∃ W : Nat → Nat → Hp → Prop, (∃ m, W 0 m (upd H1 DD (.lst []))) ∧ ∀ i m H, W i m H →
      ((Ite K a).stop i H ∧ Qd H) ∨ ((Ite K a).go i H ∧ ∃ Nx : Hp → Prop, (∀ H', Nx H' → ∃ m', m' < m ∧ W (i + 1) m' H') ∧ ∀ x H', (Ite K a).yld i H x H' → g x (wipe σ vs) H' fun σ2 H2 => wipe σ2 vs = wipe σ vs ∧ tt σ2 H2 fun b H3 =>
        if b = true then te σ2 H3 fun y H4 => ∃ acc, H4 DD = some (.lst acc) ∧ acc.length < sizeLine ∧ Nx (upd H4 DD (.lst (acc ++ [y]))) else Nx H3) := by
  refine lc_it walk_enum Pv h0 hq (fun i x H H' hi p y => ?_) hd
  obtain ⟨T, x1, y1, rfl, hT, rfl, h1, h2⟩ := y
  cases h1
  exact hs i y1 T H h2 hT p
/-- zip of two lists of any lengths -/
theorem for_zipM (n : Nat) (hn : n = min xs.length ys.length) (Pv : Nat → L2.St → Hp → Prop) (h0 : Pv 0 σ H) (hq : ∀ i σ H, Pv i σ H → SqL K H a xs ∧ SqL K H b ys)
    (hs : ∀ (i : Nat) (x y : V) (T : Addr) (σ : L2.St) (H : Hp), xs[i]? = some x → ys[i]? = some y → H T = none → Pv i σ H → g (.ref T) σ (upd H T (.tup [x, y])) fun σ2 H2 => tb { D with nx := Pv (i + 1), ct := Pv (i + 1), bk := D.nx } σ2 H2) (hd : ∀ σ H, Pv n σ H → D.nx σ H) :
    ∃ W : Nat → Nat → L2.St → Hp → Prop, (∃ m, W 0 m σ H) ∧ ∀ i m σ H, W i m σ H →
      ((Itz K a b).stop i H ∧ D.nx σ H) ∨ ((Itz K a b).go i H ∧ ∃ N : L2.St → Hp → Prop, (∀ σ' H', N σ' H' → ∃ m', m' < m ∧ W (i + 1) m' σ' H') ∧ ∀ v H', (Itz K a b).yld i H v H' → g v σ H' fun σ2 H2 => tb { D with nx := N, ct := N, bk := D.nx } σ2 H2) := by
  refine for_it (walk_zip hn) Pv h0 (fun i σ H _ p => hq i σ H p) (fun i x σ H H' hi p y => ?_) hd
  obtain ⟨T, x1, y1, rfl, hT, rfl, h1, h2⟩ := y
  exact hs i x1 y1 T σ H h1 h2 hT p
theorem lc_zipM (n : Nat) (hn : n = min xs.length ys.length) (Pv : Nat → Hp → Prop) (h0 : Pv 0 (upd H1 DD (.lst []))) (hq : ∀ i H, i ≤ n → Pv i H → SqL K H a xs ∧ SqL K H b ys)
    (hs : ∀ (i : Nat) (x y : V) (T : Addr) (H : Hp), xs[i]? = some x → ys[i]? = some y → H T = none → Pv i H → g (.ref T) (wipe σ vs) (upd H T (.tup [x, y])) fun σ2 H2 => wipe σ2 vs = wipe σ vs ∧ tt σ2 H2 fun b H3 =>
      if b = true then te σ2 H3 fun y H4 => ∃ acc, H4 DD = some (.lst acc) ∧ acc.length < sizeLine ∧ Pv (i + 1) (upd H4 DD (.lst (acc ++ [y]))) else Pv (i + 1) H3) (hd : ∀ H, Pv n H → Qd H) :
    ∃ W : Nat → Nat → Hp → Prop, (∃ m, W 0 m (upd H1 DD (.lst []))) ∧ ∀ i m H, W i m H →
      ((Itz K a b).stop i H ∧ Qd H) ∨ ((Itz K a b).go i H ∧ ∃ Nx : Hp → Prop, (∀ H', Nx H' → ∃ m', m' < m ∧ W (i + 1) m' H') ∧ ∀ x H', (Itz K a b).yld i H x H' → g x (wipe σ vs) H' fun σ2 H2 => wipe σ2 vs = wipe σ vs ∧ tt σ2 H2 fun b H3 =>
        if b = true then te σ2 H3 fun y H4 => ∃ acc, H4 DD = some (.lst acc) ∧ acc.length < sizeLine ∧ Nx (upd H4 DD (.lst (acc ++ [y]))) else Nx H3) := by
  refine lc_it (walk_zip hn) Pv h0 hq (fun i x H H' hi p y => ?_) hd
  obtain ⟨T, x1, y1, rfl, hT, rfl, h1, h2⟩ := y
  exact hs i x1 y1 T H h1 h2 hT p
end
theorem zipM_len {α β : Type} {xs : List α} {ys : List β} : min xs.length ys.length = (xs.zip ys).length := by rw [List.length_zip]
theorem zipM_n {α β : Type} {vs ws : List V} {xs : List α} {ys : List β} (a : vs.length = xs.length) (b : ws.length = ys.length) : min xs.length ys.length = min vs.length ws.length := by rw [a, b]
def rListTK (K : PySem.W.Frag) : List V → Hp → VK → Prop := fun xs H Q => ∃ (p : Addr) (vs : List V), xs = [.ref p] ∧ SqT K H p vs ∧ ∀ l, H l = none → Q (.ref l) (upd H l (.lst vs))
theorem call_listTK {X : Cx} {K : PySem.W.Frag} (hK : X.K = K := by rfl) : CallR X (.type "list") (rListTK K) := by
  subst hK
  intro pins s σ H xs us Q I r h
  obtain ⟨p, vs, rfl, hs, q⟩ := h
  exact call_list_of pins s σ H _ us Q I r ⟨p, _, rfl, Or.inr hs, q⟩
/-- two lists that keep step -/
inductive F2 {α β : Type} (P : α → β → Prop) : List α → List β → Prop
  | nil : F2 P [] []
  | cons {a : α} {b : β} {l : List α} {m : List β} (h : P a b) (t : F2 P l m) : F2 P (a :: l) (b :: m)
theorem F2.get {α β : Type} {P : α → β → Prop} : ∀ {l : List α} {m : List β}, F2 P l m → ∀ (j : Nat), j < l.length → ∃ a b, l[j]? = some a ∧ m[j]? = some b ∧ P a b
  | _, _, .nil, j, h => absurd h (Nat.not_lt_zero _)
  | _, _, .cons h t, 0, _ => ⟨_, _, rfl, rfl, h⟩
  | _, _, .cons h t, j + 1, hj => t.get j (Nat.lt_of_succ_lt_succ hj)
theorem F2.at {α β : Type} [Inhabited α] [Inhabited β] {P : α → β → Prop} {l : List α} {m : List β} (h : F2 P l m) (k : Int) (h0 : 0 ≤ k) (h1 : k < l.length) : P (itD l k) (itD m k) := by
  obtain ⟨j, rfl⟩ : ∃ j : Nat, k = (j : Int) := ⟨k.toNat, by omega⟩
  obtain ⟨a, b, ha, hb, p⟩ := h.get j (by omega)
  have e1 : itD l (j : Int) = a := by unfold itD; rw [atI_nat ha]; rfl
  have e2 : itD m (j : Int) = b := by unfold itD; rw [atI_nat hb]; rfl
  rw [e1, e2]
  exact p
theorem SqT.cast {K : PySem.W.Frag} {H : Hp} {a : Addr} {xs ys : List V} (h : SqT K H a xs) (e : xs = ys) : SqT K H a ys := e ▸ h
/-- enumerate(xs) -/
def enumL {α : Type} (xs : List α) : List (Int × α) := (rng 0 xs.length).zip xs
theorem enumL_len {α : Type} (xs : List α) : (enumL xs).length = xs.length := by
  unfold enumL
  rw [List.length_zip, rng_len, Nat.min_self]
theorem enumL_get {α : Type} {xs : List α} {i : Nat} {x : α} (h : xs[i]? = some x) : (enumL xs)[i]? = some ((i : Int), x) := by
  have hl : i < xs.length := (List.getElem?_eq_some_iff.mp h).1
  unfold enumL
  rw [List.getElem?_zip_eq_some]
  refine ⟨?_, h⟩
  have := rng_get (lo := 0) hl
  rw [this]
  congr 1
  omega
end Vx
/-! # fourth part: reckoning with functions that may refuse -/
namespace Vx
open PySem PySem.Spec PyProof.Rows L2
section
variable {α β σ ρ τ : Type}
theorem bind_ok (a : α) (f : α → Rx β) : (Rx.ok a).bind f = f a := rfl
theorem bind_er (e : Nat) (f : α → Rx β) : (Rx.er e : Rx α).bind f = .er e := rfl
theorem grd_pos {p : Prop} {dp : Decidable p} {m : Rx α} (h : p) : grd p m = m := if_pos h
theorem bnd_eq (a : α) (f : α → Rx β) : bnd a f = f a := rfl
theorem noEr_ok (a : α) : noEr (.ok a : Rx α) = .ok a := rfl
theorem tryR_ok {cs : List Nat} (a : α) (f : α → Rx β) (g : Nat → Rx β) : tryR (.ok a) cs f g = f a := rfl
theorem tryR_er {cs : List Nat} {e : Nat} (h : e ∈ cs) (f : α → Rx β) (g : Nat → Rx β) : tryR (.er e) cs f g = g e := if_pos h
theorem aft_go (s : σ) (kr : ρ → Rx τ) (k : σ → Rx τ) : (Lp.go s : Lp σ ρ).aft kr k = k s := rfl
theorem aft_rt (r : ρ) (kr : ρ → Rx τ) (k : σ → Rx τ) : (Lp.rt r : Lp σ ρ).aft kr k = kr r := rfl
/-- gives a value of which P holds -/
def Gv (m : Rx α) (P : α → Prop) : Prop := ∃ v, m = .ok v ∧ P v
theorem Gv.ok {a : α} {P : α → Prop} (h : P a) : Gv (.ok a) P := ⟨a, rfl, h⟩
theorem Gv.of_eq {m : Rx α} {a : α} {P : α → Prop} (e : m = .ok a) (h : P a) : Gv m P := ⟨a, e, h⟩
theorem Gv.bind {m : Rx α} {f : α → Rx β} {P : α → Prop} {Q : β → Prop} (h : Gv m P) (k : ∀ v, P v → Gv (f v) Q) : Gv (m.bind f) Q := by
  obtain ⟨v, rfl, p⟩ := h
  exact k v p
theorem Gv.bind_eq {m : Rx α} {f : α → Rx β} {a : α} {Q : β → Prop} (h : m = .ok a) (k : Gv (f a) Q) : Gv (m.bind f) Q := by
  subst h
  exact k
theorem Gv.grd {p : Prop} {dp : Decidable p} {m : Rx α} {Q : α → Prop} (h : p) (k : Gv m Q) : Gv (Vx.grd p m) Q := by
  rw [grd_pos h]
  exact k
theorem Gv.bnd {a : α} {f : α → Rx β} {Q : β → Prop} (k : ∀ x, x = a → Gv (f x) Q) : Gv (Vx.bnd a f) Q := k a rfl
theorem Gv.ite {p : Prop} {dp : Decidable p} {a b : Rx α} {Q : α → Prop} (h1 : p → Gv a Q) (h2 : ¬ p → Gv b Q) : Gv (if p then a else b) Q := by
  split
  · exact h1 ‹_›
  · exact h2 ‹_›
theorem Gv.pos {p : Prop} {dp : Decidable p} {a b : Rx α} {Q : α → Prop} (h : p) (k : Gv a Q) : Gv (if p then a else b) Q := by rwa [if_pos h]
theorem Gv.neg {p : Prop} {dp : Decidable p} {a b : Rx α} {Q : α → Prop} (h : ¬ p) (k : Gv b Q) : Gv (if p then a else b) Q := by rwa [if_neg h]
theorem Gv.imp {m : Rx α} {P Q : α → Prop} (h : Gv m P) (k : ∀ v, P v → Q v) : Gv m Q := by
  obtain ⟨v, e, p⟩ := h
  exact ⟨v, e, k v p⟩
theorem Gv.noEr {m : Rx α} {P : α → Prop} (h : Gv m P) : Gv (Vx.noEr m) P := by
  obtain ⟨v, rfl, p⟩ := h
  exact ⟨v, rfl, p⟩
theorem Gv.tryOk {m : Rx α} {cs : List Nat} {f : α → Rx β} {g : Nat → Rx β} {P : α → Prop} {Q : β → Prop} (h : Gv m P) (k : ∀ v, P v → Gv (f v) Q) : Gv (tryR m cs f g) Q := by
  obtain ⟨v, rfl, p⟩ := h
  exact k v p
theorem Gv.tryEr {m : Rx α} {cs : List Nat} {e : Nat} {f : α → Rx β} {g : Nat → Rx β} {Q : β → Prop} (h : m = .er e) (hm : e ∈ cs) (k : Gv (g e) Q) : Gv (tryR m cs f g) Q := by
  subst h
  rw [tryR_er hm]
  exact k
theorem Gv.get {m : Rx α} {a : α} (h : Gv m (fun v => v = a)) : m = .ok a := by
  obtain ⟨v, e, rfl⟩ := h
  exact e
theorem Gv.eq {m : Rx α} {P : α → Prop} (h : Gv m P) : ∃ v, m = .ok v ∧ P v := h
/-- a loop that keeps P -/
theorem Gv.forS {P : Nat → σ → Prop} {xs : List α} {s : σ} {f : σ → α → Rx σ} (h0 : P 0 s) (hs : ∀ i x s, xs[i]? = some x → P i s → Gv (f s x) (P (i + 1))) : Gv (Vx.forS xs s f) (P xs.length) := by
  induction xs generalizing s P with
  | nil => exact .ok h0
  | cons x r ih =>
    refine Gv.bind (hs 0 x s rfl h0) fun s' p => ?_
    exact ih (P := fun i => P (i + 1)) p fun i y s hy q => hs (i + 1) y s (by simpa using hy) q
theorem Gv.forR {P : Nat → σ → Prop} {xs : List α} {s : σ} {f : σ → α → Rx (Lp σ ρ)} (h0 : P 0 s) (hs : ∀ i x s, xs[i]? = some x → P i s → Gv (f s x) (fun l => ∃ s', l = .go s' ∧ P (i + 1) s')) : Gv (Vx.forR xs s f) (fun l => ∃ s', l = .go s' ∧ P xs.length s') := by
  induction xs generalizing s P with
  | nil => exact .ok ⟨s, rfl, h0⟩
  | cons x r ih =>
    refine Gv.bind (hs 0 x s rfl h0) ?_
    rintro _ ⟨s', rfl, p⟩
    exact ih (P := fun i => P (i + 1)) p fun i y s hy q => hs (i + 1) y s (by simpa using hy) q
/-- a loop that carries nothing -/
theorem forR_unit {xs : List α} {f : Unit → α → Rx (Lp Unit ρ)} (h : ∀ x ∈ xs, f () x = .ok (.go ())) : Vx.forR xs () f = .ok (.go ()) := by
  induction xs with
  | nil => rfl
  | cons x r ih =>
    show (f () x).bind _ = _
    rw [h x List.mem_cons_self]
    exact ih fun y hy => h y (List.mem_cons_of_mem _ hy)
theorem forS_pure {xs : List α} {s : σ} {f : σ → α → Rx σ} {g : σ → α → σ} (h : ∀ s x, x ∈ xs → f s x = .ok (g s x)) : Vx.forS xs s f = .ok (xs.foldl g s) := by
  induction xs generalizing s with
  | nil => rfl
  | cons x r ih =>
    show (f s x).bind _ = _
    rw [h s x List.mem_cons_self]
    exact ih fun s y hy => h s y (List.mem_cons_of_mem _ hy)
theorem mapA_pure {xs : List α} {acc : List β} {f : α → Rx β} {g : α → β} (h : ∀ x ∈ xs, f x = .ok (g x)) (hl : acc.length + xs.length ≤ 1000000) : mapA xs acc f = .ok (acc ++ xs.map g) := by
  induction xs generalizing acc with
  | nil => simp [mapA]
  | cons x r ih =>
    rw [List.length_cons] at hl
    unfold mapA
    rw [grd_pos (by omega), h x List.mem_cons_self, bind_ok, ih (fun y hy => h y (List.mem_cons_of_mem _ hy)) (by rw [List.length_append, List.length_cons, List.length_nil]; omega)]
    simp
theorem mapA_pure0 {xs : List α} {f : α → Rx β} {g : α → β} (h : ∀ x ∈ xs, f x = .ok (g x)) (hl : xs.length ≤ 1000000) : mapA xs [] f = .ok (xs.map g) := by
  rw [mapA_pure h (by simpa using hl)]
  rfl
theorem mapF_pure {xs : List α} {acc : List β} {f : α → Rx (Option β)} {g : α → Option β} (h : ∀ x ∈ xs, f x = .ok (g x)) (hl : acc.length + xs.length ≤ 1000000) : mapF xs acc f = .ok (acc ++ xs.filterMap g) := by
  induction xs generalizing acc with
  | nil => simp [mapF]
  | cons x r ih =>
    rw [List.length_cons] at hl
    unfold mapF
    rw [grd_pos (by omega), h x List.mem_cons_self, bind_ok]
    cases e : g x with
    | none =>
      show mapF r acc f = _
      rw [ih (fun y hy => h y (List.mem_cons_of_mem _ hy)) (by omega), List.filterMap_cons, e]
    | some z =>
      show mapF r (acc ++ [z]) f = _
      rw [ih (fun y hy => h y (List.mem_cons_of_mem _ hy)) (by rw [List.length_append, List.length_cons, List.length_nil]; omega), List.filterMap_cons, e]
      simp
/-- a while that ends: m falls -/
theorem Gv.whileR {P : σ → Prop} {R : σ → Prop} (m : σ → Nat) {f : σ → Rx (Lp σ ρ)} (hs : ∀ s, P s → Gv (f s) (fun l => (∃ s', l = .go s' ∧ P s' ∧ m s' < m s) ∨ ∃ s', l = .bk s' ∧ R s')) : ∀ {n : Nat} {s : σ}, P s → m s < n → Gv (Vx.whileR n s f) (fun l => ∃ s', l = .go s' ∧ R s') := by
  intro n
  induction n with
  | zero => intro s _ h; exact absurd h (Nat.not_lt_zero _)
  | succ n ih =>
    intro s p h
    refine Gv.bind (hs s p) ?_
    rintro _ (⟨s', rfl, p', l⟩ | ⟨s', rfl, r⟩)
    · exact ih p' (by omega)
    · exact .ok ⟨s', rfl, r⟩
end
theorem rng_mem {lo x : Int} {n : Nat} (h : x ∈ rng lo n) : lo ≤ x ∧ x < lo + n := by
  unfold rng at h
  obtain ⟨j, hj, rfl⟩ := List.mem_map.mp h
  have := List.mem_range.mp hj
  omega
theorem rng_at {lo x : Int} {n i : Nat} (h : (rng lo n)[i]? = some x) : x = lo + i ∧ i < n := by
  have hl := get_len h
  rw [rng_len] at hl
  rw [rng_get hl] at h
  exact ⟨(Option.some.inj h).symm, hl⟩
end Vx
namespace Vx
open PySem PySem.Spec PyProof.Rows L2
def F_check_size (size' : Int) : Rx Unit :=
  (if (size' : Int) ∈ ([4, 8] : List Int) then .ok (()) else .er 1)

def F_check_square_b1 (square_7 : (List (List Int))) (it25 : (List Int)) : Rx Unit :=
  (if ((((it25) : (List Int)).length : Int) : Int) = (((square_7) : (List (List Int))).length : Int) then .ok () else .er 1)

def F_check_square_r1  : Rx Unit :=
  .ok (())

def F_check_square (square' : (List (List Int))) : Rx Unit :=
  Rx.bind (F_check_size ((((square') : (List (List Int))).length : Int))) fun v6 => Rx.bind (forS (square') () (fun s x => F_check_square_b1 (square')  x)) fun s => F_check_square_r1  

def F_turn_back (first' : Int) (second' : Int) (outer' : Int) (inner' : Int) : Rx (Int × Int) :=
  grd ((-(2 ^ 64) < (outer' : Int) ∧ (outer' : Int) < 2 ^ 64) ∨ (-(2 ^ 64) < (first' : Int) ∧ (first' : Int) < 2 ^ 64)) <| bnd ((second' - (((outer' * first') + 16) / 32))) fun second_32 => grd ((-(2 ^ 64) < (inner' : Int) ∧ (inner' : Int) < 2 ^ 64) ∨ (-(2 ^ 64) < (second_32 : Int) ∧ (second_32 : Int) < 2 ^ 64)) <| bnd ((first' + (((inner' * second_32) + 16) / 32))) fun first_34 => grd ((-(2 ^ 64) < (outer' : Int) ∧ (outer' : Int) < 2 ^ 64) ∨ (-(2 ^ 64) < (first_34 : Int) ∧ (first_34 : Int) < 2 ^ 64)) <| bnd ((second_32 - (((outer' * first_34) + 16) / 32))) fun second_36 => .ok ((first_34, second_36))

def F_join_pair (low' : Int) (high' : Int) : Rx (Int × Int) :=
  bnd ((low' + ((high' + 1) / 2))) fun first_49 => .ok ((first_49, (first_49 - high')))

def F__inverse_four_k5 (x1_165 : Int) (x2_166 : Int) (x0_167 : Int) (x3_168 : Int) : Rx (List Int) :=
  .ok ([x0_167, x1_165, x2_166, x3_168])

def F__inverse_four_k4 (h0_137 : Int) (l0_138 : Int) (x1_139 : Int) (x2_140 : Int) : Rx (List Int) :=
  Rx.bind ((Rx.bind (F_join_pair l0_138 h0_137) fun v173 => .ok ((v173.1), (v173.2)) : Rx (Int × Int))) fun s => F__inverse_four_k5 (x1_139) (x2_140) (s.1) (s.2)

def F__inverse_four_k3 (h0_109 : Int) (h1_110 : Int) (l0_111 : Int) (l1_112 : Int) : Rx (List Int) :=
  Rx.bind ((Rx.bind (F_join_pair l1_112 h1_110) fun v145 => .ok ((v145.1), (v145.2)) : Rx (Int × Int))) fun s => F__inverse_four_k4 (h0_109) (l0_111) (s.1) (s.2)

def F__inverse_four_k2 (c0_81 : Int) (c2_82 : Int) (h0_83 : Int) (h1_84 : Int) : Rx (List Int) :=
  Rx.bind ((Rx.bind (F_join_pair c0_81 c2_82) fun v117 => .ok ((v117.1), (v117.2)) : Rx (Int × Int))) fun s => F__inverse_four_k3 (h0_83) (h1_84) (s.1) (s.2)

def F__inverse_four_k1 (c0_62 : Int) (c1_63 : Int) (c2_64 : Int) (c3_65 : Int) : Rx (List Int) :=
  Rx.bind ((Rx.bind (F_turn_back c1_63 c3_65 6 12) fun v89 => .ok ((v89.1), (v89.2)) : Rx (Int × Int))) fun s => F__inverse_four_k2 (c0_62) (c2_64) (s.1) (s.2)

def F__inverse_four (values' : (List Int)) : Rx (List Int) :=
  Rx.bind ((grd ((values').length = 4) <| bnd ((itD (values') 0)) fun c0_73 => bnd ((itD (values') 1)) fun c1_74 => bnd ((itD (values') 2)) fun c2_75 => bnd ((itD (values') 3)) fun c3_76 => .ok ((c0_73), (c1_74), (c2_75), (c3_76)) : Rx (Int × Int × Int × Int))) fun s => F__inverse_four_k1  (s.1) (s.2.1) (s.2.2.1) (s.2.2.2)

def F__inverse_eight_c8 (it470 : (Int × Int)) : Rx (Int × Int) :=
  Rx.bind (F_join_pair it470.1 it470.2) fun v471 => .ok v471

def F__inverse_eight_c9 (it574 : (Int × Int)) : Rx Int :=
  .ok it574.1

def F__inverse_eight_c10 (it661 : (Int × Int)) : Rx Int :=
  .ok it661.2

def F__inverse_eight_k7 (pairs_394 : (List (Int × Int))) : Rx (List Int) :=
  Rx.bind (mapA (pairs_394) [] (fun x => noEr (F__inverse_eight_c9  x))) fun v524 => Rx.bind (mapA ((pairs_394).reverse) [] (fun x => noEr (F__inverse_eight_c10  x))) fun v605 => grd ((v524).length + (v605).length ≤ 1000000) <| .ok ((v524) ++ (v605))

def F__inverse_eight_k6 (h1_361 : Int) (h2_362 : Int) (h0_363 : Int) (h3_364 : Int) (lows_365 : (List Int)) : Rx (List Int) :=
  Rx.bind ((Rx.bind (mapA (List.zip (lows_365) ([h0_363, h1_361, h2_362, h3_364])) [] (fun x => noEr (F__inverse_eight_c8  x))) fun v409 => .ok (v409) : Rx ((List (Int × Int))))) fun s => F__inverse_eight_k7  s

def F__inverse_eight_k5 (e0_329 : Int) (e1_330 : Int) (e2_331 : Int) (e3_332 : Int) (h1_333 : Int) (h2_334 : Int) (h0_335 : Int) (h3_336 : Int) : Rx (List Int) :=
  Rx.bind ((Rx.bind (F__inverse_four ([e0_329, e1_330, e2_331, e3_332])) fun v379 => .ok (v379) : Rx ((List Int)))) fun s => F__inverse_eight_k6 (h1_333) (h2_334) (h0_335) (h3_336) s

def F__inverse_eight_k4 (e0_297 : Int) (e1_298 : Int) (e2_299 : Int) (e3_300 : Int) (d3_301 : Int) (d0_302 : Int) (h1_303 : Int) (h2_304 : Int) : Rx (List Int) :=
  Rx.bind ((Rx.bind (F_turn_back d0_302 d3_301 3 6) fun v341 => .ok ((v341.1), (v341.2)) : Rx (Int × Int))) fun s => F__inverse_eight_k5 (e0_297) (e1_298) (e2_299) (e3_300) (h1_303) (h2_304) (s.1) (s.2)

def F__inverse_eight_k3 (e0_265 : Int) (e1_266 : Int) (e2_267 : Int) (e3_268 : Int) (d2_269 : Int) (d3_270 : Int) (d0_271 : Int) (d1_272 : Int) : Rx (List Int) :=
  Rx.bind ((Rx.bind (F_turn_back d1_272 d2_269 10 18) fun v309 => .ok ((v309.1), (v309.2)) : Rx (Int × Int))) fun s => F__inverse_eight_k4 (e0_265) (e1_266) (e2_267) (e3_268) (d3_270) (d0_271) (s.1) (s.2)

def F__inverse_eight_k2 (e0_233 : Int) (f0_234 : Int) (e1_235 : Int) (e2_236 : Int) (f1_237 : Int) (e3_238 : Int) (d2_239 : Int) (d3_240 : Int) : Rx (List Int) :=
  Rx.bind ((Rx.bind (F_join_pair f0_234 f1_237) fun v277 => .ok ((v277.1), (v277.2)) : Rx (Int × Int))) fun s => F__inverse_eight_k3 (e0_233) (e1_235) (e2_236) (e3_238) (d2_239) (d3_240) (s.1) (s.2)

def F__inverse_eight_k1 (e0_202 : Int) (f0_203 : Int) (e1_204 : Int) (f2_205 : Int) (e2_206 : Int) (f1_207 : Int) (e3_208 : Int) (f3_209 : Int) : Rx (List Int) :=
  Rx.bind ((Rx.bind (F_join_pair f2_205 f3_209) fun v245 => .ok ((v245.1), (v245.2)) : Rx (Int × Int))) fun s => F__inverse_eight_k2 (e0_202) (f0_203) (e1_204) (e2_206) (f1_207) (e3_208) (s.1) (s.2)

def F__inverse_eight (values' : (List Int)) : Rx (List Int) :=
  Rx.bind ((grd ((values').length = 8) <| bnd ((itD (values') 0)) fun e0_221 => bnd ((itD (values') 1)) fun f0_222 => bnd ((itD (values') 2)) fun e1_223 => bnd ((itD (values') 3)) fun f2_224 => bnd ((itD (values') 4)) fun e2_225 => bnd ((itD (values') 5)) fun f1_226 => bnd ((itD (values') 6)) fun e3_227 => bnd ((itD (values') 7)) fun f3_228 => .ok ((e0_221), (f0_222), (e1_223), (f2_224), (e2_225), (f1_226), (e3_227), (f3_228)) : Rx (Int × Int × Int × Int × Int × Int × Int × Int))) fun s => F__inverse_eight_k1  (s.1) (s.2.1) (s.2.2.1) (s.2.2.2.1) (s.2.2.2.2.1) (s.2.2.2.2.2.1) (s.2.2.2.2.2.2.1) (s.2.2.2.2.2.2.2)

def F_inverse (values' : (List Int)) : Rx (List Int) :=
  Rx.bind (F_check_size ((((values') : (List Int)).length : Int))) fun v696 => (if ((((values') : (List Int)).length : Int) : Int) = 4 then Rx.bind (F__inverse_four (values')) fun v698 => .ok (v698) else Rx.bind (F__inverse_eight (values')) fun v707 => .ok (v707))

def F_transposed_c1 (it774 : (List Int)) : Rx (List Int) :=
  .ok it774

def F_transposed (rows' : (List (List Int))) : Rx (List (List Int)) :=
  grd ((rows' : List (List Int)).length = 4 ∨ (rows' : List (List Int)).length = 6 ∨ (rows' : List (List Int)).length = 8) <| Rx.bind (mapA (zipRows (rows')) [] (fun x => noEr (F_transposed_c1  x))) fun v724 => .ok (v724)

def F_inverse_square_c1 (it884 : (List Int)) : Rx (List Int) :=
  Rx.bind (F_inverse (it884)) fun v885 => .ok v885

def F_inverse_square_c2 (it996 : (List Int)) : Rx (List Int) :=
  Rx.bind (F_inverse (it996)) fun v997 => .ok v997

def F_inverse_square (square' : (List (List Int))) : Rx (List (List Int)) :=
  Rx.bind (F_check_square (square')) fun v808 => Rx.bind (F_transposed (square')) fun v812 => Rx.bind (mapA (v812) [] (fun x => noEr (F_inverse_square_c1  x))) fun v831 => Rx.bind (F_transposed (v831)) fun v918 => Rx.bind (mapA (v918) [] (fun x => noEr (F_inverse_square_c2  x))) fun v937 => .ok (v937)

def F_step_of (quantizer' : Int) : Rx Int :=
  (if 0 ≤ quantizer' then (if quantizer' ≤ 31 then grd ((-(2 ^ 64) < (quantizer' : Int) ∧ (quantizer' : Int) < 2 ^ 64) ∨ (-(2 ^ 64) < (quantizer' : Int) ∧ (quantizer' : Int) < 2 ^ 64)) <| .ok (((1 + quantizer') + ((quantizer' * quantizer') / 4))) else .er 1) else .er 1)

def F_restore_square_c2 (step_1087 : Int) (it1134 : Int) : Rx Int :=
  grd ((-(2 ^ 64) < (it1134 : Int) ∧ (it1134 : Int) < 2 ^ 64) ∨ (-(2 ^ 64) < (step_1087 : Int) ∧ (step_1087 : Int) < 2 ^ 64)) <| .ok ((it1134 * step_1087))

def F_restore_square_c1 (step_1042 : Int) (it1086 : (List Int)) : Rx (List Int) :=
  Rx.bind (mapA (it1086) [] (fun x => noEr (F_restore_square_c2 (step_1042) x))) fun v1088 => .ok v1088

def F_restore_square (square' : (List (List Int))) (quantizer' : Int) : Rx (List (List Int)) :=
  Rx.bind (F_step_of quantizer') fun v1041 => Rx.bind (mapA (square') [] (fun x => noEr (F_restore_square_c1 (v1041) x))) fun v1043 => .ok (v1043)

def F_scan_order_c2 (size_1207 : Int) (total_1208 : Int) (it1239 : Int) : Rx (Option (Int × Int)) :=
  (if 0 ≤ (total_1208 - it1239) then (if (total_1208 - it1239) < size_1207 then .ok (some ((it1239, (total_1208 - it1239)))) else .ok none) else .ok none)

def F_scan_order_k3 (order_1275 : (List (Int × Int))) (diagonal_1276 : (List (Int × Int))) : Rx ((List (Int × Int))) :=
  grd ((order_1275).length + (diagonal_1276).length ≤ 1000000) <| bnd ((order_1275) ++ (diagonal_1276)) fun y1310 => .ok (y1310)

def F_scan_order_b1 (size_1188 : Int) (order_1202 : (List (Int × Int))) (it1205 : Int) : Rx ((List (Int × Int))) :=
  grd (-(2 ^ 62) ≤ size_1188 ∧ size_1188 < 2 ^ 62) <| Rx.bind (mapF (rng (0) (Int.toNat (size_1188))) [] (fun x => noEr (F_scan_order_c2 (size_1188) (it1205) x))) fun v1209 => Rx.bind (((if ((it1205 % 2) : Int) = 0 then bnd ((v1209).reverse) fun y1289 => .ok (y1289) else .ok (v1209)) : Rx ((List (Int × Int))))) fun s => F_scan_order_k3 (order_1202) s

def F_scan_order_r1 (order_1317 : (List (Int × Int))) : Rx (List (Int × Int)) :=
  .ok (order_1317)

def F_scan_order (size' : Int) : Rx (List (Int × Int)) :=
  Rx.bind (F_check_size size') fun v1176 => grd (-(2 ^ 62) ≤ ((2 * size') - 1) ∧ ((2 * size') - 1) < 2 ^ 62) <| Rx.bind (forS (rng (0) (Int.toNat (((2 * size') - 1)))) (([] : (List (Int × Int)))) (fun s x => F_scan_order_b1 (size') s x)) fun s => F_scan_order_r1  s

def F_to_square_c1 (size_1326 : Int) (it1355 : Int) : Rx (List Int) :=
  grd (-(2 ^ 63) ≤ (size_1326 : Int) ∧ (size_1326 : Int) < 2 ^ 63 ∧ ([0]).length * Int.toNat (size_1326) ≤ 1000000) <| .ok (repL ([0]) (size_1326))

def F_to_square_b2 (square_1456 : (List (List Int))) (it1459 : (Int × (Int × Int))) : Rx ((List (List Int))) :=
  grd (-((square_1456 : (List (List Int))).length : Int) ≤ it1459.2.1 ∧ it1459.2.1 < ((square_1456 : (List (List Int))).length : Int)) <| grd (-(((itD (square_1456) (it1459.2.1)) : (List Int)).length : Int) ≤ it1459.2.2 ∧ it1459.2.2 < (((itD (square_1456) (it1459.2.1)) : (List Int)).length : Int)) <| bnd (setL (square_1456) (it1459.2.1) (setL ((itD (square_1456) (it1459.2.1))) (it1459.2.2) (it1459.1))) fun y1480 => .ok (y1480)

def F_to_square_r2 (square_1489 : (List (List Int))) : Rx (List (List Int)) :=
  .ok (square_1489)

def F_to_square (levels' : (List Int)) : Rx (List (List Int)) :=
  (if ((((levels') : (List Int)).length : Int) : Int) ∈ ([16, 64] : List Int) then grd (((((levels') : (List Int)).length : Int) : Int) ∈ ([16, 64] : List Int)) <| bnd ((dictI [(16, 4), (64, 8)] ((((levels') : (List Int)).length : Int)))) fun size_1324 => grd (-(2 ^ 62) ≤ size_1324 ∧ size_1324 < 2 ^ 62) <| Rx.bind (mapA (rng (0) (Int.toNat (size_1324))) [] (fun x => noEr (F_to_square_c1 (size_1324) x))) fun v1327 => Rx.bind (F_scan_order size_1324) fun v1395 => Rx.bind (forS (List.zip (levels') (v1395)) (v1327) (fun s x => F_to_square_b2  s x)) fun s => F_to_square_r2  s else .er 1)

def F_residue_of (levels' : (List Int)) (quantizer' : Int) : Rx (List (List Int)) :=
  Rx.bind (F_to_square (levels')) fun v1490 => Rx.bind (F_restore_square (v1490) quantizer') fun v1509 => Rx.bind (F_inverse_square (v1509)) fun v1528 => .ok (v1528)

def F_split_pair (first' : Int) (second' : Int) : Rx (Int × Int) :=
  .ok ((((first' + second') / 2), (first' - second')))

def F_turn_pair (first' : Int) (second' : Int) (outer' : Int) (inner' : Int) : Rx (Int × Int) :=
  grd ((-(2 ^ 64) < (outer' : Int) ∧ (outer' : Int) < 2 ^ 64) ∨ (-(2 ^ 64) < (first' : Int) ∧ (first' : Int) < 2 ^ 64)) <| bnd ((second' + (((outer' * first') + 16) / 32))) fun second_1560 => grd ((-(2 ^ 64) < (inner' : Int) ∧ (inner' : Int) < 2 ^ 64) ∨ (-(2 ^ 64) < (second_1560 : Int) ∧ (second_1560 : Int) < 2 ^ 64)) <| bnd ((first' - (((inner' * second_1560) + 16) / 32))) fun first_1562 => grd ((-(2 ^ 64) < (outer' : Int) ∧ (outer' : Int) < 2 ^ 64) ∨ (-(2 ^ 64) < (first_1562 : Int) ∧ (first_1562 : Int) < 2 ^ 64)) <| bnd ((second_1560 + (((outer' * first_1562) + 16) / 32))) fun second_1564 => .ok ((first_1562, second_1564))

def F__forward_four_k5 (c0_1680 : Int) (c2_1681 : Int) (c1_1682 : Int) (c3_1683 : Int) : Rx (List Int) :=
  .ok ([c0_1680, c1_1682, c2_1681, c3_1683])

def F__forward_four_k4 (h0_1652 : Int) (h1_1653 : Int) (c0_1654 : Int) (c2_1655 : Int) : Rx (List Int) :=
  Rx.bind ((Rx.bind (F_turn_pair h0_1652 h1_1653 6 12) fun v1688 => .ok ((v1688.1), (v1688.2)) : Rx (Int × Int))) fun s => F__forward_four_k5 (c0_1654) (c2_1655) (s.1) (s.2)

def F__forward_four_k3 (l0_1624 : Int) (h0_1625 : Int) (l1_1626 : Int) (h1_1627 : Int) : Rx (List Int) :=
  Rx.bind ((Rx.bind (F_split_pair l0_1624 l1_1626) fun v1660 => .ok ((v1660.1), (v1660.2)) : Rx (Int × Int))) fun s => F__forward_four_k4 (h0_1625) (h1_1627) (s.1) (s.2)

def F__forward_four_k2 (x1_1596 : Int) (x2_1597 : Int) (l0_1598 : Int) (h0_1599 : Int) : Rx (List Int) :=
  Rx.bind ((Rx.bind (F_split_pair x1_1596 x2_1597) fun v1632 => .ok ((v1632.1), (v1632.2)) : Rx (Int × Int))) fun s => F__forward_four_k3 (l0_1598) (h0_1599) (s.1) (s.2)

def F__forward_four_k1 (x0_1577 : Int) (x1_1578 : Int) (x2_1579 : Int) (x3_1580 : Int) : Rx (List Int) :=
  Rx.bind ((Rx.bind (F_split_pair x0_1577 x3_1580) fun v1604 => .ok ((v1604.1), (v1604.2)) : Rx (Int × Int))) fun s => F__forward_four_k2 (x1_1578) (x2_1579) (s.1) (s.2)

def F__forward_four (values' : (List Int)) : Rx (List Int) :=
  Rx.bind ((grd ((values').length = 4) <| bnd ((itD (values') 0)) fun x0_1588 => bnd ((itD (values') 1)) fun x1_1589 => bnd ((itD (values') 2)) fun x2_1590 => bnd ((itD (values') 3)) fun x3_1591 => .ok ((x0_1588), (x1_1589), (x2_1590), (x3_1591)) : Rx (Int × Int × Int × Int))) fun s => F__forward_four_k1  (s.1) (s.2.1) (s.2.2.1) (s.2.2.2)

def F__forward_eight_c2 (values_1722 : (List Int)) (it1751 : Int) : Rx (Int × Int) :=
  grd (-((values_1722 : (List Int)).length : Int) ≤ it1751 ∧ it1751 < ((values_1722 : (List Int)).length : Int)) <| grd (-((values_1722 : (List Int)).length : Int) ≤ (7 - it1751) ∧ (7 - it1751) < ((values_1722 : (List Int)).length : Int)) <| Rx.bind (F_split_pair ((itD (values_1722) (it1751))) ((itD (values_1722) ((7 - it1751))))) fun v1754 => .ok v1754

def F__forward_eight_c4 (it1860 : (Int × Int)) : Rx Int :=
  .ok it1860.2

def F__forward_eight_c6 (it1949 : (Int × Int)) : Rx Int :=
  .ok it1949.1

def F__forward_eight_k10 (e0_2082 : Int) (e1_2083 : Int) (e2_2084 : Int) (e3_2085 : Int) (f0_2086 : Int) (f1_2087 : Int) (f2_2088 : Int) (f3_2089 : Int) : Rx (List Int) :=
  .ok ([e0_2082, f0_2086, e1_2083, f2_2088, e2_2084, f1_2087, e3_2085, f3_2089])

def F__forward_eight_k9 (e0_2050 : Int) (e1_2051 : Int) (e2_2052 : Int) (e3_2053 : Int) (d3_2054 : Int) (d2_2055 : Int) (f0_2056 : Int) (f1_2057 : Int) : Rx (List Int) :=
  Rx.bind ((Rx.bind (F_split_pair d2_2055 d3_2054) fun v2094 => .ok ((v2094.1), (v2094.2)) : Rx (Int × Int))) fun s => F__forward_eight_k10 (e0_2050) (e1_2051) (e2_2052) (e3_2053) (f0_2056) (f1_2057) (s.1) (s.2)

def F__forward_eight_k8 (e0_2018 : Int) (e1_2019 : Int) (e2_2020 : Int) (e3_2021 : Int) (d0_2022 : Int) (d3_2023 : Int) (d1_2024 : Int) (d2_2025 : Int) : Rx (List Int) :=
  Rx.bind ((Rx.bind (F_split_pair d0_2022 d1_2024) fun v2062 => .ok ((v2062.1), (v2062.2)) : Rx (Int × Int))) fun s => F__forward_eight_k9 (e0_2018) (e1_2019) (e2_2020) (e3_2021) (d3_2023) (d2_2025) (s.1) (s.2)

def F__forward_eight_k7 (h1_1986 : Int) (h2_1987 : Int) (e0_1988 : Int) (e1_1989 : Int) (e2_1990 : Int) (e3_1991 : Int) (d0_1992 : Int) (d3_1993 : Int) : Rx (List Int) :=
  Rx.bind ((Rx.bind (F_turn_pair h1_1986 h2_1987 10 18) fun v2030 => .ok ((v2030.1), (v2030.2)) : Rx (Int × Int))) fun s => F__forward_eight_k8 (e0_1988) (e1_1989) (e2_1990) (e3_1991) (d0_1992) (d3_1993) (s.1) (s.2)

def F__forward_eight_k5 (h0_1888 : Int) (h1_1889 : Int) (h2_1890 : Int) (h3_1891 : Int) (e0_1892 : Int) (e1_1893 : Int) (e2_1894 : Int) (e3_1895 : Int) : Rx (List Int) :=
  Rx.bind ((Rx.bind (F_turn_pair h0_1888 h3_1891 3 6) fun v1998 => .ok ((v1998.1), (v1998.2)) : Rx (Int × Int))) fun s => F__forward_eight_k7 (h1_1889) (h2_1890) (e0_1892) (e1_1893) (e2_1894) (e3_1895) (s.1) (s.2)

def F__forward_eight_k3 (pairs_1802 : (List (Int × Int))) (h0_1803 : Int) (h1_1804 : Int) (h2_1805 : Int) (h3_1806 : Int) : Rx (List Int) :=
  Rx.bind ((Rx.bind (mapA (pairs_1802) [] (fun x => noEr (F__forward_eight_c6  x))) fun v1902 => Rx.bind (F__forward_four (v1902)) fun v1968 => grd ((v1968).length = 4) <| bnd ((itD (v1968) 0)) fun e0_1978 => bnd ((itD (v1968) 1)) fun e1_1979 => bnd ((itD (v1968) 2)) fun e2_1980 => bnd ((itD (v1968) 3)) fun e3_1981 => .ok ((e0_1978), (e1_1979), (e2_1980), (e3_1981)) : Rx (Int × Int × Int × Int))) fun s => F__forward_eight_k5 (h0_1803) (h1_1804) (h2_1805) (h3_1806) (s.1) (s.2.1) (s.2.2.1) (s.2.2.2)

def F__forward_eight_k1 (pairs_1717 : (List (Int × Int))) : Rx (List Int) :=
  Rx.bind ((Rx.bind (mapA (pairs_1717) [] (fun x => noEr (F__forward_eight_c4  x))) fun v1813 => grd ((v1813).length = 4) <| bnd ((itD (v1813) 0)) fun h0_1880 => bnd ((itD (v1813) 1)) fun h1_1881 => bnd ((itD (v1813) 2)) fun h2_1882 => bnd ((itD (v1813) 3)) fun h3_1883 => .ok ((h0_1880), (h1_1881), (h2_1882), (h3_1883)) : Rx (Int × Int × Int × Int))) fun s => F__forward_eight_k3 (pairs_1717) (s.1) (s.2.1) (s.2.2.1) (s.2.2.2)

def F__forward_eight (values' : (List Int)) : Rx (List Int) :=
  Rx.bind ((Rx.bind (mapA (rng (0) (Int.toNat (4))) [] (fun x => noEr (F__forward_eight_c2 (values') x))) fun v1723 => .ok (v1723) : Rx ((List (Int × Int))))) fun s => F__forward_eight_k1  s

def F_forward (values' : (List Int)) : Rx (List Int) :=
  Rx.bind (F_check_size ((((values') : (List Int)).length : Int))) fun v2123 => (if ((((values') : (List Int)).length : Int) : Int) = 4 then Rx.bind (F__forward_four (values')) fun v2125 => .ok (v2125) else Rx.bind (F__forward_eight (values')) fun v2134 => .ok (v2134))

def F_forward_square_c1 (it2194 : (List Int)) : Rx (List Int) :=
  Rx.bind (F_forward (it2194)) fun v2195 => .ok v2195

def F_forward_square_c2 (it2302 : (List Int)) : Rx (List Int) :=
  Rx.bind (F_forward (it2302)) fun v2303 => .ok v2303

def F_forward_square (square' : (List (List Int))) : Rx (List (List Int)) :=
  Rx.bind (F_check_square (square')) fun v2147 => Rx.bind (mapA (square') [] (fun x => noEr (F_forward_square_c1  x))) fun v2151 => Rx.bind (F_transposed (v2151)) fun v2224 => Rx.bind (mapA (v2224) [] (fun x => noEr (F_forward_square_c2  x))) fun v2243 => Rx.bind (F_transposed (v2243)) fun v2343 => .ok (v2343)

def F__law_cell (script' : (List Int)) (k' : Int) : Rx Int :=
  (if k' < (((script') : (List Int)).length : Int) then grd (-((script' : (List Int)).length : Int) ≤ k' ∧ k' < ((script' : (List Int)).length : Int)) <| .ok ((if (itD (script') (k')) < 0 then -(itD (script') (k')) else (itD (script') (k')))) else .ok (0))

def F__law_refused (levels' : (List Int)) (quantizer' : Int) : Rx Bool :=
  tryR (F_residue_of (levels') quantizer') [1] (fun v2364 => .ok (false)) (fun _ => .ok (true))

def F__law_digits_b1 (base_2397 : Int) (large_2398 : Bool) (cell_2410 : Int) (digits_2411 : (List Int)) (it2414 : Int) : Rx (Int × (List Int)) :=
  (if large_2398 = true then grd (0 < (base_2397 : Int)) <| grd ((digits_2411).length ≤ 1000000) <| bnd ((digits_2411) ++ [(cell_2410 % base_2397)]) fun y2424 => grd (0 < (base_2397 : Int) ∧ (base_2397 : Int) < 2 ^ 128) <| bnd ((cell_2410 / base_2397)) fun cell_2426 => .ok ((cell_2426), (y2424)) else grd ((-(2 ^ 64) < ((it2414 + 1) : Int) ∧ ((it2414 + 1) : Int) < 2 ^ 64) ∨ (-(2 ^ 64) < ((it2414 + 5) : Int) ∧ ((it2414 + 5) : Int) < 2 ^ 64)) <| grd ((-(2 ^ 64) < ((cell_2410 / 97) : Int) ∧ ((cell_2410 / 97) : Int) < 2 ^ 64) ∨ (-(2 ^ 64) < (it2414 : Int) ∧ (it2414 : Int) < 2 ^ 64)) <| grd (0 < (base_2397 : Int)) <| grd ((digits_2411).length ≤ 1000000) <| bnd ((digits_2411) ++ [(((((cell_2410 * 48271) + (((it2414 + 1) * (it2414 + 5)) * 69621)) + ((cell_2410 / 97) * it2414)) % 2147483647) % base_2397)]) fun y2437 => .ok ((cell_2410), (y2437)))

def F__law_digits_r1 (cell_2443 : Int) (digits_2444 : (List Int)) : Rx (List Int) :=
  .ok (digits_2444)

def F__law_digits (cell' : Int) (base' : Int) (most' : Int) : Rx (List Int) :=
  bnd (decide (((10 : Int) ^ Int.toNat 18) ≤ cell')) fun large_2395 => grd (-(2 ^ 62) ≤ most' ∧ most' < 2 ^ 62) <| Rx.bind (forS (rng (0) (Int.toNat (most'))) ((cell'), (([] : (List Int)))) (fun s x => F__law_digits_b1 (base') (large_2395) (s.1) (s.2) x)) fun s => F__law_digits_r1  (s.1) (s.2)

def F__law_is_square_b2 (it2485 : Int) : Rx (Lp Unit Bool) :=
  .ok (.go ())

def F__law_is_square_r2  : Rx (Lp Unit Bool) :=
  .ok (.go ())

def F__law_is_square_b1 (size_2450 : Int) (it2469 : (List Int)) : Rx (Lp Unit Bool) :=
  (if ((((it2469) : (List Int)).length : Int) : Int) = size_2450 then Rx.bind (forR (it2469) () (fun s x => F__law_is_square_b2   x)) fun l => l.aft (fun r => .ok (.rt r)) fun s => F__law_is_square_r2   else .ok (.rt (false)))

def F__law_is_square_r1  : Rx Bool :=
  .ok (true)

def F__law_is_square (actual' : (List (List Int))) (size' : Int) : Rx Bool :=
  (if ((((actual') : (List (List Int))).length : Int) : Int) = size' then Rx.bind (forR (actual') () (fun s x => F__law_is_square_b1 (size')  x)) fun l => l.aft Rx.ok fun s => F__law_is_square_r1   else .ok (false))

def F_law_c2 (most_2546 : Int) (it2590 : Int) : Rx Int :=
  .ok ((it2590 - most_2546))

def F_law_b4 (step_2731 : Int) (kept_2732 : (List Int)) (turned_2733 : (List (List Int))) (order_2734 : (List (Int × Int))) (it2760 : Int) : Rx (Lp Unit Bool) :=
  grd (-((order_2734 : (List (Int × Int))).length : Int) ≤ it2760 ∧ it2760 < ((order_2734 : (List (Int × Int))).length : Int)) <| grd (-((turned_2733 : (List (List Int))).length : Int) ≤ (itD (order_2734) (it2760)).1 ∧ (itD (order_2734) (it2760)).1 < ((turned_2733 : (List (List Int))).length : Int)) <| grd (-((order_2734 : (List (Int × Int))).length : Int) ≤ it2760 ∧ it2760 < ((order_2734 : (List (Int × Int))).length : Int)) <| grd (-(((itD (turned_2733) ((itD (order_2734) (it2760)).1)) : (List Int)).length : Int) ≤ (itD (order_2734) (it2760)).2 ∧ (itD (order_2734) (it2760)).2 < (((itD (turned_2733) ((itD (order_2734) (it2760)).1)) : (List Int)).length : Int)) <| grd (-((kept_2732 : (List Int)).length : Int) ≤ it2760 ∧ it2760 < ((kept_2732 : (List Int)).length : Int)) <| grd ((-(2 ^ 64) < ((itD (kept_2732) (it2760)) : Int) ∧ ((itD (kept_2732) (it2760)) : Int) < 2 ^ 64) ∨ (-(2 ^ 64) < (step_2731 : Int) ∧ (step_2731 : Int) < 2 ^ 64)) <| (if ((itD ((itD (turned_2733) ((itD (order_2734) (it2760)).1))) ((itD (order_2734) (it2760)).2)) : Int) = ((itD (kept_2732) (it2760)) * step_2731) then .ok (.go ()) else .ok (.rt (false)))

def F_law_k5 (cell_2806 : Int) (quantizer_2807 : Int) (levels_2808 : (List Int)) (length_2809 : Int) : Rx (Lp Unit Bool) :=
  grd (-(2 ^ 63) ≤ (length_2809 : Int) ∧ (length_2809 : Int) < 2 ^ 63 ∧ ([1]).length * Int.toNat (length_2809) ≤ 1000000) <| Rx.bind (F__law_refused (repL ([1]) (length_2809)) quantizer_2807) fun v2844 => (if v2844 = true then Rx.bind (F__law_refused (levels_2808) ((32 + (cell_2806 % 9)))) fun v2850 => (if v2850 = true then Rx.bind (F__law_refused (levels_2808) (((-1) - (cell_2806 % 9)))) fun v2856 => (if v2856 = true then .ok (.go ()) else .ok (.rt (false))) else .ok (.rt (false))) else .ok (.rt (false)))

def F_law_r4 (cell_2735 : Int) (quantizer_2736 : Int) (levels_2737 : (List Int)) : Rx (Lp Unit Bool) :=
  bnd (((cell_2735 / 13) % 80)) fun length_2805 => Rx.bind (((if (length_2805 : Int) = 16 then .ok (63) else (if (length_2805 : Int) = 64 then .ok (63) else .ok (length_2805))) : Rx (Int))) fun s => F_law_k5 (cell_2735) (quantizer_2736) (levels_2737) s

def F_law_k3 (cell_2611 : Int) (size_2612 : Int) (quantizer_2613 : Int) (step_2614 : Int) (levels_2615 : (List Int)) : Rx (Lp Unit Bool) :=
  Rx.bind (F_residue_of (levels_2615) quantizer_2613) fun v2667 => Rx.bind (F__law_is_square (v2667) size_2612) fun v2686 => (if v2686 = true then (if (levels_2615 : (List Int)) = levels_2615 then Rx.bind (F_forward_square (v2667)) fun v2696 => Rx.bind (F_scan_order size_2612) fun v2715 => grd ((-(2 ^ 64) < (size_2612 : Int) ∧ (size_2612 : Int) < 2 ^ 64) ∨ (-(2 ^ 64) < (size_2612 : Int) ∧ (size_2612 : Int) < 2 ^ 64)) <| grd (-(2 ^ 62) ≤ (size_2612 * size_2612) ∧ (size_2612 * size_2612) < 2 ^ 62) <| Rx.bind (forR (rng (0) (Int.toNat ((size_2612 * size_2612)))) () (fun s x => F_law_b4 (step_2614) (levels_2615) (v2696) (v2715)  x)) fun l => l.aft (fun r => .ok (.rt r)) fun s => F_law_r4 (cell_2611) (quantizer_2613) (levels_2615)  else .ok (.rt (false))) else .ok (.rt (false)))

def F_law_b1 (script_2495 : (List Int)) (it2518 : Int) : Rx (Lp Unit Bool) :=
  Rx.bind (F__law_cell (script_2495) it2518) fun v2519 => bnd ((v2519 + it2518)) fun cell_2520 => bnd ((4 + (4 * (cell_2520 % 2)))) fun size_2521 => bnd (((cell_2520 / 2) % 32)) fun quantizer_2522 => grd ((-(2 ^ 64) < (quantizer_2522 : Int) ∧ (quantizer_2522 : Int) < 2 ^ 64) ∨ (-(2 ^ 64) < (quantizer_2522 : Int) ∧ (quantizer_2522 : Int) < 2 ^ 64)) <| bnd (((1 + quantizer_2522) + ((quantizer_2522 * quantizer_2522) / 4))) fun step_2524 => grd (-(([3, 2000, 524287] : (List Int)).length : Int) ≤ ((cell_2520 / 5) % 3) ∧ ((cell_2520 / 5) % 3) < (([3, 2000, 524287] : (List Int)).length : Int)) <| bnd ((itD ([3, 2000, 524287]) (((cell_2520 / 5) % 3)))) fun most_2535 => grd ((-(2 ^ 64) < (size_2521 : Int) ∧ (size_2521 : Int) < 2 ^ 64) ∨ (-(2 ^ 64) < (size_2521 : Int) ∧ (size_2521 : Int) < 2 ^ 64)) <| Rx.bind (F__law_digits ((cell_2520 / 3)) (((2 * most_2535) + 1)) ((size_2521 * size_2521))) fun v2537 => Rx.bind (mapA (v2537) [] (fun x => noEr (F_law_c2 (most_2535) x))) fun v2547 => Rx.bind (((if (((cell_2520 / 7) % 4) : Int) = 0 then grd ((-(2 ^ 64) < (size_2521 : Int) ∧ (size_2521 : Int) < 2 ^ 64) ∨ (-(2 ^ 64) < (size_2521 : Int) ∧ (size_2521 : Int) < 2 ^ 64)) <| grd (-(2 ^ 63) ≤ ((size_2521 * size_2521) : Int) ∧ ((size_2521 * size_2521) : Int) < 2 ^ 63 ∧ ([0]).length * Int.toNat ((size_2521 * size_2521)) ≤ 1000000) <| grd ((-(2 ^ 64) < (size_2521 : Int) ∧ (size_2521 : Int) < 2 ^ 64) ∨ (-(2 ^ 64) < (size_2521 : Int) ∧ (size_2521 : Int) < 2 ^ 64)) <| grd (0 < ((size_2521 * size_2521) : Int)) <| grd (-((repL ([0]) ((size_2521 * size_2521)) : (List Int)).length : Int) ≤ ((cell_2520 / 11) % (size_2521 * size_2521)) ∧ ((cell_2520 / 11) % (size_2521 * size_2521)) < ((repL ([0]) ((size_2521 * size_2521)) : (List Int)).length : Int)) <| bnd (setL (repL ([0]) ((size_2521 * size_2521))) (((cell_2520 / 11) % (size_2521 * size_2521))) (most_2535)) fun y2650 => .ok (y2650) else .ok (v2547)) : Rx ((List Int)))) fun s => F_law_k3 (cell_2520) (size_2521) (quantizer_2522) (step_2524) s

def F_law_r1  : Rx Bool :=
  .ok (true)

def F_law (script' : (List Int)) : Rx Bool :=
  grd (-(2 ^ 62) ≤ (if 6 < (1 + (((script') : (List Int)).length : Int)) then 6 else (1 + (((script') : (List Int)).length : Int))) ∧ (if 6 < (1 + (((script') : (List Int)).length : Int)) then 6 else (1 + (((script') : (List Int)).length : Int))) < 2 ^ 62) <| Rx.bind (forR (rng (0) (Int.toNat ((if 6 < (1 + (((script') : (List Int)).length : Int)) then 6 else (1 + (((script') : (List Int)).length : Int)))))) () (fun s x => F_law_b1 (script')  x)) fun l => l.aft Rx.ok fun s => F_law_r1  
theorem cell_gv (s : List Int) (k : Int) (h : 0 ≤ k) : Gv (F__law_cell s k) (fun v => 0 ≤ v) := by
  unfold F__law_cell
  refine Gv.ite (fun c => Gv.grd ⟨by omega, c⟩ (.ok ?_)) fun _ => .ok (by decide)
  split <;> omega
theorem all_snoc {P : Int → Prop} {xs : List Int} {y : Int} (h : ∀ x ∈ xs, P x) (hy : P y) : ∀ x ∈ xs ++ [y], P x := fun x hx => by
  rcases List.mem_append.mp hx with q | q
  · exact h x q
  · rw [List.mem_singleton.mp q]
    exact hy
theorem digits_gv (cell base most : Int) (h0 : 0 < base) (h1 : base < 2 ^ 64) (hm : 0 ≤ most) (hm2 : most ≤ 1000) : Gv (F__law_digits cell base most) (fun v => (v.length : Int) = most ∧ ∀ x ∈ v, 0 ≤ x ∧ x < base) := by
  unfold F__law_digits
  refine Gv.bnd fun large _ => Gv.grd ⟨by omega, by omega⟩ (Gv.bind (Gv.forS (P := fun i s => s.2.length = i ∧ ∀ x ∈ s.2, 0 ≤ x ∧ x < base) ⟨rfl, fun x hx => by cases hx⟩ fun i x s hx p => ?_) fun s p => .ok ⟨?_, p.2⟩)
  · obtain ⟨rfl, hi⟩ := rng_at hx
    have hl := p.1
    unfold F__law_digits_b1
    refine Gv.ite (fun _ => Gv.grd h0 (Gv.grd (by omega) (Gv.bnd fun y hy => Gv.grd ⟨h0, by omega⟩ (Gv.bnd fun c _ => .ok ?_)))) fun _ => Gv.grd ?_ (Gv.grd ?_ (Gv.grd h0 (Gv.grd (by omega) (Gv.bnd fun y hy => .ok ?_))))
    · subst hy
      exact ⟨by rw [List.length_append, hl]; rfl, all_snoc p.2 ⟨Int.emod_nonneg _ (by omega), Int.emod_lt_of_pos _ h0⟩⟩
    · left
      omega
    · right
      omega
    · subst hy
      exact ⟨by rw [List.length_append, hl]; rfl, all_snoc p.2 ⟨Int.emod_nonneg _ (by omega), Int.emod_lt_of_pos _ h0⟩⟩
  · have := p.1
    rw [rng_len] at this
    omega
theorem itD_lit {xs : List Int} {a k : Int} (n : Nat) (e : k = (n : Int)) (h : xs[n]? = some a) : itD xs k = a := by
  subst e
  have hl := get_len h
  unfold itD atI ixN
  rw [if_pos (by omega), if_pos (by omega)]
  show (xs[n]?).getD default = a
  rw [h]
  rfl
theorem ixl {xs : List Int} {k : Int} (n : Nat) (e : xs.length = n) (h0 : 0 ≤ k) (h : k < n) : -(xs.length : Int) ≤ k ∧ k < xs.length := by
  rw [e]
  omega
theorem itD_some {α : Type} [Inhabited α] {xs : List α} {k : Int} (h : -(xs.length : Int) ≤ k ∧ k < xs.length) : ∃ j : Nat, xs[j]? = some (itD xs k) := by
  obtain ⟨j, e, hj⟩ := ixN_some h
  refine ⟨j, ?_⟩
  unfold itD atI
  rw [e, List.getElem?_eq_getElem hj]
  show some xs[j] = some ((xs[j]?).getD default)
  rw [List.getElem?_eq_getElem hj] <;> rfl
theorem itD_mem {α : Type} [Inhabited α] {xs : List α} {k : Int} (h : -(xs.length : Int) ≤ k ∧ k < xs.length) : itD xs k ∈ xs := by
  obtain ⟨j, e⟩ := itD_some h
  exact List.mem_of_getElem? e
theorem itD_map {α β : Type} [Inhabited α] [Inhabited β] {xs : List α} {f : α → β} {k : Int} (h : -(xs.length : Int) ≤ k ∧ k < xs.length) : itD (xs.map f) k = f (itD xs k) := by
  obtain ⟨j, e, hj⟩ := ixN_some h
  unfold itD atI
  rw [List.length_map, e]
  show ((xs.map f)[j]?).getD default = f ((xs[j]?).getD default)
  rw [List.getElem?_map, List.getElem?_eq_getElem hj] <;> rfl
theorem itD_nat {α : Type} [Inhabited α] {xs : List α} {k : Int} {j : Nat} (e : k = (j : Int)) (h : j < xs.length) : itD xs k = xs[j] := by
  subst e
  unfold itD atI ixN
  rw [if_pos (by omega), if_pos (by omega)]
  show (xs[j]?).getD default = _
  rw [List.getElem?_eq_getElem h] <;> rfl
theorem setL_mem {α : Type} {xs : List α} {k : Int} {y z : α} (h : z ∈ setL xs k y) : z ∈ xs ∨ z = y := by
  unfold setL at h
  exact List.mem_or_eq_of_mem_set h
theorem setL_len {α : Type} {xs : List α} {k : Int} {y : α} : (setL xs k y).length = xs.length := by
  unfold setL
  rw [List.length_set]
/-! ### rows -/
theorem size4 : F_check_size (4 : Int) = .ok () := by
  unfold F_check_size
  rw [if_pos (by decide)]
theorem size8 : F_check_size (8 : Int) = .ok () := by
  unfold F_check_size
  rw [if_pos (by decide)]
theorem size_er {n : Int} (h4 : n ≠ 4) (h8 : n ≠ 8) : F_check_size n = .er 1 := by
  unfold F_check_size
  rw [if_neg (by simp [h4, h8])]
def N48 (n : Nat) : Prop := n = 4 ∨ n = 8
theorem N48.pos {n : Nat} (h : N48 n) : 0 < n := by rcases h with rfl | rfl <;> decide
theorem small48 {n : Nat} (hn : N48 n) : n ≤ 8 := by rcases hn with rfl | rfl <;> decide
def Sq (n : Nat) (M : List (List Int)) : Prop := M.length = n ∧ ∀ r ∈ M, r.length = n
def at2 (M : List (List Int)) (j i : Nat) : Int := itD (itD M (j : Int)) (i : Int)
theorem itDn {α : Type} [Inhabited α] {xs : List α} {j : Nat} (h : j < xs.length) : itD xs (j : Int) = xs[j] := itD_nat rfl h
theorem Sq.row {n : Nat} {M : List (List Int)} (h : Sq n M) {j : Nat} (hj : j < n) : (itD M (j : Int)).length = n := by
  rw [itDn (by rw [h.1]; exact hj)]
  exact h.2 _ (List.getElem_mem _)
theorem sq_ext {n : Nat} {A B : List (List Int)} (ha : Sq n A) (hb : Sq n B) (h : ∀ j i, j < n → i < n → at2 A j i = at2 B j i) : A = B := by
  apply List.ext_getElem (by rw [ha.1, hb.1])
  intro j h1 h2
  have hj : j < n := by rw [← ha.1]; exact h1
  apply List.ext_getElem (by rw [ha.2 _ (List.getElem_mem _), hb.2 _ (List.getElem_mem _)])
  intro i q1 q2
  have hi : i < n := by rw [← ha.2 _ (List.getElem_mem h1)]; exact q1
  have := h j i hj hi
  unfold at2 at this
  rw [itDn h1, itDn h2, itDn q1, itDn q2] at this
  exact this
theorem Sq.map {n : Nat} {M : List (List Int)} {g : List Int → List Int} (h : Sq n M) (hg : ∀ l, l.length = n → (g l).length = n) : Sq n (M.map g) :=
  ⟨by rw [List.length_map, h.1], fun r hr => by
    obtain ⟨l, hl, rfl⟩ := List.mem_map.mp hr
    exact hg l (h.2 l hl)⟩
theorem map_id' {n : Nat} {M : List (List Int)} {g : List Int → List Int} (h : Sq n M) (hg : ∀ l, l.length = n → g l = l) : M.map g = M := by
  conv => rhs; rw [← List.map_id M]
  exact List.map_congr_left fun l hl => hg l (h.2 l hl)
theorem check_ok {n : Nat} {M : List (List Int)} (h : Sq n M) (hn : N48 n) : F_check_square M = .ok () := by
  unfold F_check_square
  have e : F_check_size (M.length : Int) = .ok () := by
    rw [h.1]
    rcases hn with rfl | rfl
    · exact size4
    · exact size8
  rw [e, bind_ok, forS_pure (g := fun _ _ => ()) (fun s x hx => ?_)]
  · rfl
  · unfold F_check_square_b1
    rw [if_pos (by rw [h.1, h.2 x hx])]
theorem forS_er {α : Type} {e : Nat} {xs : List α} {f : Unit → α → Rx Unit} (h : ∀ x ∈ xs, f () x = .ok () ∨ f () x = .er e) (h2 : ∃ x ∈ xs, f () x = .er e) : forS xs () f = .er e := by
  induction xs with
  | nil => obtain ⟨x, hx, _⟩ := h2; cases hx
  | cons x r ih =>
    show (f () x).bind _ = _
    rcases h x List.mem_cons_self with q | q
    · rw [q, bind_ok]
      refine ih (fun y hy => h y (List.mem_cons_of_mem _ hy)) ?_
      obtain ⟨y, hy, hz⟩ := h2
      rcases List.mem_cons.mp hy with rfl | hy
      · rw [q] at hz; cases hz
      · exact ⟨y, hy, hz⟩
    · rw [q]; rfl
theorem check_er {M : List (List Int)} (h : ¬ N48 M.length ∨ ∃ r ∈ M, r.length ≠ M.length) : F_check_square M = .er 1 := by
  unfold F_check_square
  by_cases hn : N48 M.length
  · have h2 := h.resolve_left (fun z => z hn)
    have e : F_check_size (M.length : Int) = .ok () := by
      rcases hn with q | q
      · rw [q]; exact size4
      · rw [q]; exact size8
    have k1 : ∀ x ∈ M, F_check_square_b1 M x = .ok () ∨ F_check_square_b1 M x = .er 1 := fun x _ => by
      unfold F_check_square_b1
      by_cases q : ((x.length : Nat) : Int) = M.length
      · exact .inl (if_pos q)
      · exact .inr (if_neg q)
    have k2 : ∃ x ∈ M, F_check_square_b1 M x = .er 1 := by
      obtain ⟨r, hr, ne⟩ := h2
      refine ⟨r, hr, ?_⟩
      unfold F_check_square_b1
      exact if_neg (by omega)
    rw [e, bind_ok, forS_er (f := fun s x => F_check_square_b1 M x) k1 k2]
    rfl
  · rw [size_er (fun z => hn (.inl (by omega))) (fun z => hn (.inr (by omega)))]
    rfl
theorem nn_le {n : Nat} (hn : N48 n) : n * n ≤ 64 := by rcases hn with rfl | rfl <;> decide
theorem setL_nat {α : Type} {xs : List α} {k : Nat} {y : α} (h : k < xs.length) : setL xs (k : Int) y = xs.set k y := by
  unfold setL ixN
  rw [if_pos (by omega), if_pos (by omega)]
  rfl
theorem itD_set {α : Type} [Inhabited α] {xs : List α} {k j : Nat} {y : α} (hk : k < xs.length) (hj : j < xs.length) : itD (setL xs (k : Int) y) (j : Int) = if k = j then y else itD xs (j : Int) := by
  rw [setL_nat hk, itDn (by rw [List.length_set]; exact hj), itDn hj, List.getElem_set]
theorem set_sq {n : Nat} {M : List (List Int)} {j i : Nat} {v : Int} (h : Sq n M) (hj : j < n) : Sq n (setL M (j : Int) (setL (itD M (j : Int)) (i : Int) v)) := by
  refine ⟨by rw [setL_len, h.1], fun r hr => ?_⟩
  rcases setL_mem hr with q | rfl
  · exact h.2 r q
  · rw [setL_len, h.row hj]
theorem set_at {n : Nat} {M : List (List Int)} {j i a b : Nat} {v : Int} (h : Sq n M) (hj : j < n) (hi : i < n) (ha : a < n) (hb : b < n) : at2 (setL M (j : Int) (setL (itD M (j : Int)) (i : Int) v)) a b = if j = a ∧ i = b then v else at2 M a b := by
  unfold at2
  rw [itD_set (by rw [h.1]; exact hj) (by rw [h.1]; exact ha)]
  by_cases q : j = a
  · subst q
    rw [if_pos rfl, itD_set (by rw [h.row hj]; exact hi) (by rw [h.row hj]; exact hb)]
    by_cases z : i = b
    · rw [if_pos z, if_pos ⟨rfl, z⟩]
    · rw [if_neg z, if_neg (fun w => z w.2)]
  · rw [if_neg q, if_neg (fun w => q w.1)]
theorem repl_one {x : Int} {k : Nat} : repL [x] (k : Int) = List.replicate k x := by
  unfold repL
  rw [Int.toNat_natCast]
  induction k with
  | zero => rfl
  | succ k ih => rw [List.replicate_succ, List.flatten_cons, ih]; rfl
theorem repl_len {x k : Int} (h : 0 ≤ k) : (repL [x] k).length = k.toNat := by
  obtain ⟨j, rfl⟩ : ∃ j : Nat, k = (j : Int) := ⟨k.toNat, by omega⟩
  rw [repl_one, List.length_replicate, Int.toNat_natCast]
theorem mem_setL {α : Type} {xs : List α} {k : Int} {y : α} (h : -(xs.length : Int) ≤ k ∧ k < xs.length) : y ∈ setL xs k y := by
  obtain ⟨j, e, hj⟩ := ixN_some h
  unfold setL
  rw [e]
  exact List.mem_set hj y
def sl (a b : Int) : Int := (a + b) / 2
def sh (a b : Int) : Int := a - b
def j0 (l h : Int) : Int := l + (h + 1) / 2
def j1 (l h : Int) : Int := j0 l h - h
def tS (f s o : Int) : Int := s + (o * f + 16) / 32
def t1 (f s o i : Int) : Int := f - (i * tS f s o + 16) / 32
def t2 (f s o i : Int) : Int := tS (t1 f s o i) (tS f s o) o
def bS (f s o : Int) : Int := s - (o * f + 16) / 32
def b1 (f s o i : Int) : Int := f + (i * bS f s o + 16) / 32
def b2 (f s o i : Int) : Int := bS (b1 f s o i) (bS f s o) o
theorem js0 (a b : Int) : j0 (sl a b) (sh a b) = a := by unfold j0 sl sh; omega
theorem js1 (a b : Int) : j1 (sl a b) (sh a b) = b := by unfold j1 j0 sl sh; omega
theorem sj0 (l h : Int) : sl (j0 l h) (j1 l h) = l := by unfold j1 j0 sl; omega
theorem sj1 (l h : Int) : sh (j0 l h) (j1 l h) = h := by unfold j1 j0 sh; omega
theorem bt (f s o : Int) : bS f (tS f s o) o = s := by unfold bS tS; omega
theorem tb (f s o : Int) : tS f (bS f s o) o = s := by unfold bS tS; omega
theorem bt1 (f s o i : Int) : b1 (t1 f s o i) (t2 f s o i) o i = f := by
  unfold b1 t2
  rw [bt]
  unfold t1
  omega
theorem bt2 (f s o i : Int) : b2 (t1 f s o i) (t2 f s o i) o i = s := by
  unfold b2
  rw [bt1]
  unfold t2
  rw [bt, bt]
theorem tb1 (f s o i : Int) : t1 (b1 f s o i) (b2 f s o i) o i = f := by
  unfold t1 b2
  rw [tb]
  unfold b1
  omega
theorem tb2 (f s o i : Int) : t2 (b1 f s o i) (b2 f s o i) o i = s := by
  unfold t2
  rw [tb1]
  unfold b2
  rw [tb, tb]
def f4 (a b c d : Int) : List Int := [sl (sl a d) (sl b c), t1 (sh a d) (sh b c) 6 12, sh (sl a d) (sl b c), t2 (sh a d) (sh b c) 6 12]
def i4 (c0 c1 c2 c3 : Int) : List Int := [j0 (j0 c0 c2) (b1 c1 c3 6 12), j0 (j1 c0 c2) (b2 c1 c3 6 12), j1 (j1 c0 c2) (b2 c1 c3 6 12), j1 (j0 c0 c2) (b1 c1 c3 6 12)]
theorem split_eq (a b : Int) : F_split_pair a b = .ok (sl a b, sh a b) := rfl
theorem join_eq (l h : Int) : F_join_pair l h = .ok (j0 l h, j1 l h) := rfl
theorem sm {o : Int} {p : Prop} (h0 : 0 ≤ o) (h1 : o < 64) : (-(2 ^ 64) < o ∧ o < 2 ^ 64) ∨ p := .inl ⟨by omega, by omega⟩
theorem turn_eq {o i : Int} (f s : Int) (ho : 0 ≤ o ∧ o < 64) (hi : 0 ≤ i ∧ i < 64) : F_turn_pair f s o i = .ok (t1 f s o i, t2 f s o i) := by
  unfold F_turn_pair
  rw [grd_pos (sm ho.1 ho.2), bnd_eq, grd_pos (sm hi.1 hi.2), bnd_eq, grd_pos (sm ho.1 ho.2), bnd_eq]
  rfl
theorem back_eq {o i : Int} (f s : Int) (ho : 0 ≤ o ∧ o < 64) (hi : 0 ≤ i ∧ i < 64) : F_turn_back f s o i = .ok (b1 f s o i, b2 f s o i) := by
  unfold F_turn_back
  rw [grd_pos (sm ho.1 ho.2), bnd_eq, grd_pos (sm hi.1 hi.2), bnd_eq, grd_pos (sm ho.1 ho.2), bnd_eq]
  rfl
theorem four_eq (a b c d : Int) : F__forward_four [a, b, c, d] = .ok (f4 a b c d) := by
  unfold F__forward_four
  rw [grd_pos (show [a, b, c, d].length = 4 from rfl), itD_lit (k := 0) (a := a) 0 rfl rfl, itD_lit (k := 1) (a := b) 1 rfl rfl, itD_lit (k := 2) (a := c) 2 rfl rfl, itD_lit (k := 3) (a := d) 3 rfl rfl]
  show F__forward_four_k1 a b c d = _
  unfold F__forward_four_k1
  rw [split_eq]
  show F__forward_four_k2 b c (sl a d) (sh a d) = _
  unfold F__forward_four_k2
  rw [split_eq]
  show F__forward_four_k3 (sl a d) (sh a d) (sl b c) (sh b c) = _
  unfold F__forward_four_k3
  rw [split_eq]
  show F__forward_four_k4 (sh a d) (sh b c) (sl (sl a d) (sl b c)) (sh (sl a d) (sl b c)) = _
  unfold F__forward_four_k4
  rw [turn_eq _ _ ⟨by decide, by decide⟩ ⟨by decide, by decide⟩]
  rfl
theorem inv4_eq (a b c d : Int) : F__inverse_four [a, b, c, d] = .ok (i4 a b c d) := by
  unfold F__inverse_four
  rw [grd_pos (show [a, b, c, d].length = 4 from rfl), itD_lit (k := 0) (a := a) 0 rfl rfl, itD_lit (k := 1) (a := b) 1 rfl rfl, itD_lit (k := 2) (a := c) 2 rfl rfl, itD_lit (k := 3) (a := d) 3 rfl rfl]
  show F__inverse_four_k1 a b c d = _
  unfold F__inverse_four_k1
  rw [back_eq _ _ ⟨by decide, by decide⟩ ⟨by decide, by decide⟩]
  show F__inverse_four_k2 a c (b1 b d 6 12) (b2 b d 6 12) = _
  unfold F__inverse_four_k2
  rw [join_eq]
  show F__inverse_four_k3 (b1 b d 6 12) (b2 b d 6 12) (j0 a c) (j1 a c) = _
  unfold F__inverse_four_k3
  rw [join_eq]
  show F__inverse_four_k4 (b1 b d 6 12) (j0 a c) (j0 (j1 a c) (b2 b d 6 12)) (j1 (j1 a c) (b2 b d 6 12)) = _
  unfold F__inverse_four_k4
  rw [join_eq]
  rfl
theorem mapA4 {α β : Type} {f : α → Rx β} {a b c d : α} {p q r s : β} (h1 : f a = .ok p) (h2 : f b = .ok q) (h3 : f c = .ok r) (h4 : f d = .ok s) : mapA [a, b, c, d] [] f = .ok [p, q, r, s] := by
  simp [mapA, grd, h1, h2, h3, h4, Rx.bind]
theorem noE {α : Type} {m : Rx α} {a : α} (h : m = .ok a) : noEr m = .ok a := by rw [h]; rfl
theorem rng4 : rng 0 (Int.toNat 4) = [0, 1, 2, 3] := by decide
def f8 (x0 x1 x2 x3 x4 x5 x6 x7 : Int) : List Int :=
  [sl (sl (sl x0 x7) (sl x3 x4)) (sl (sl x1 x6) (sl x2 x5)),
   sl (t1 (sh x0 x7) (sh x3 x4) 3 6) (t1 (sh x1 x6) (sh x2 x5) 10 18),
   t1 (sh (sl x0 x7) (sl x3 x4)) (sh (sl x1 x6) (sl x2 x5)) 6 12,
   sl (t2 (sh x1 x6) (sh x2 x5) 10 18) (t2 (sh x0 x7) (sh x3 x4) 3 6),
   sh (sl (sl x0 x7) (sl x3 x4)) (sl (sl x1 x6) (sl x2 x5)),
   sh (t1 (sh x0 x7) (sh x3 x4) 3 6) (t1 (sh x1 x6) (sh x2 x5) 10 18),
   t2 (sh (sl x0 x7) (sl x3 x4)) (sh (sl x1 x6) (sl x2 x5)) 6 12,
   sh (t2 (sh x1 x6) (sh x2 x5) 10 18) (t2 (sh x0 x7) (sh x3 x4) 3 6)]
section
variable (x0 x1 x2 x3 x4 x5 x6 x7 : Int)
theorem c2_eq {L : List Int} {k a b : Int} (n m : Nat) (hl : L.length = 8) (hk : k = n) (hm : 7 - k = m) (h1 : L[n]? = some a) (h2 : L[m]? = some b) : F__forward_eight_c2 L k = .ok (sl a b, sh a b) := by
  unfold F__forward_eight_c2
  have g1 := get_len h1
  have g2 := get_len h2
  rw [grd_pos (ixl 8 hl (by omega) (by omega)), grd_pos (ixl 8 hl (by omega) (by omega)), itD_lit n hk h1, itD_lit m hm h2]
  rfl
theorem eight_eq : F__forward_eight [x0, x1, x2, x3, x4, x5, x6, x7] = .ok (f8 x0 x1 x2 x3 x4 x5 x6 x7) := by
  unfold F__forward_eight
  rw [rng4, mapA4 (f := fun x => noEr (F__forward_eight_c2 [x0, x1, x2, x3, x4, x5, x6, x7] x)) (a := (0 : Int)) (b := 1) (c := 2) (d := 3) (p := (sl x0 x7, sh x0 x7)) (q := (sl x1 x6, sh x1 x6)) (r := (sl x2 x5, sh x2 x5)) (s := (sl x3 x4, sh x3 x4)) (noE (c2_eq 0 7 rfl rfl rfl rfl rfl)) (noE (c2_eq 1 6 rfl rfl rfl rfl rfl)) (noE (c2_eq 2 5 rfl rfl rfl rfl rfl)) (noE (c2_eq 3 4 rfl rfl rfl rfl rfl))]
  show F__forward_eight_k1 [(sl x0 x7, sh x0 x7), (sl x1 x6, sh x1 x6), (sl x2 x5, sh x2 x5), (sl x3 x4, sh x3 x4)] = _
  unfold F__forward_eight_k1
  rw [mapA4 (f := fun x => noEr (F__forward_eight_c4 x)) (p := sh x0 x7) (q := sh x1 x6) (r := sh x2 x5) (s := sh x3 x4) rfl rfl rfl rfl, bind_ok, grd_pos (show [sh x0 x7, sh x1 x6, sh x2 x5, sh x3 x4].length = 4 from rfl)]
  rw [itD_lit (k := 0) (a := sh x0 x7) 0 rfl rfl, itD_lit (k := 1) (a := sh x1 x6) 1 rfl rfl, itD_lit (k := 2) (a := sh x2 x5) 2 rfl rfl, itD_lit (k := 3) (a := sh x3 x4) 3 rfl rfl]
  show F__forward_eight_k3 [(sl x0 x7, sh x0 x7), (sl x1 x6, sh x1 x6), (sl x2 x5, sh x2 x5), (sl x3 x4, sh x3 x4)] (sh x0 x7) (sh x1 x6) (sh x2 x5) (sh x3 x4) = _
  unfold F__forward_eight_k3
  rw [mapA4 (f := fun x => noEr (F__forward_eight_c6 x)) (p := sl x0 x7) (q := sl x1 x6) (r := sl x2 x5) (s := sl x3 x4) rfl rfl rfl rfl, bind_ok, four_eq, bind_ok]
  unfold f4
  generalize h0 : sh x0 x7 = y0
  generalize h1 : sh x1 x6 = y1
  generalize h2 : sh x2 x5 = y2
  generalize h3 : sh x3 x4 = y3
  generalize g0 : sl x0 x7 = z0
  generalize g1 : sl x1 x6 = z1
  generalize g2 : sl x2 x5 = z2
  generalize g3 : sl x3 x4 = z3
  rw [grd_pos (show [sl (sl z0 z3) (sl z1 z2), t1 (sh z0 z3) (sh z1 z2) 6 12, sh (sl z0 z3) (sl z1 z2), t2 (sh z0 z3) (sh z1 z2) 6 12].length = 4 from rfl)]
  rw [itD_lit (k := 0) (a := sl (sl z0 z3) (sl z1 z2)) 0 rfl rfl, itD_lit (k := 1) (a := t1 (sh z0 z3) (sh z1 z2) 6 12) 1 rfl rfl, itD_lit (k := 2) (a := sh (sl z0 z3) (sl z1 z2)) 2 rfl rfl, itD_lit (k := 3) (a := t2 (sh z0 z3) (sh z1 z2) 6 12) 3 rfl rfl]
  show F__forward_eight_k5 y0 y1 y2 y3 (sl (sl z0 z3) (sl z1 z2)) (t1 (sh z0 z3) (sh z1 z2) 6 12) (sh (sl z0 z3) (sl z1 z2)) (t2 (sh z0 z3) (sh z1 z2) 6 12) = _
  unfold F__forward_eight_k5
  rw [turn_eq _ _ ⟨by decide, by decide⟩ ⟨by decide, by decide⟩]
  show F__forward_eight_k7 y1 y2 _ _ _ _ (t1 y0 y3 3 6) (t2 y0 y3 3 6) = _
  unfold F__forward_eight_k7
  rw [turn_eq _ _ ⟨by decide, by decide⟩ ⟨by decide, by decide⟩]
  show F__forward_eight_k8 _ _ _ _ (t1 y0 y3 3 6) (t2 y0 y3 3 6) (t1 y1 y2 10 18) (t2 y1 y2 10 18) = _
  unfold F__forward_eight_k8
  rw [split_eq]
  show F__forward_eight_k9 _ _ _ _ (t2 y0 y3 3 6) (t2 y1 y2 10 18) (sl (t1 y0 y3 3 6) (t1 y1 y2 10 18)) (sh (t1 y0 y3 3 6) (t1 y1 y2 10 18)) = _
  unfold F__forward_eight_k9
  rw [split_eq]
  show Rx.ok [_, _, _, _, _, _, _, _] = _
  unfold f8
  rw [h0, h1, h2, h3, g0, g1, g2, g3]
end
def i8 (e0 f0 e1 f2 e2 f1 e3 f3 : Int) : List Int :=
  [j0 (j0 (j0 e0 e2) (b1 e1 e3 6 12)) (b1 (j0 f0 f1) (j1 f2 f3) 3 6), j0 (j0 (j1 e0 e2) (b2 e1 e3 6 12)) (b1 (j1 f0 f1) (j0 f2 f3) 10 18),
   j0 (j1 (j1 e0 e2) (b2 e1 e3 6 12)) (b2 (j1 f0 f1) (j0 f2 f3) 10 18), j0 (j1 (j0 e0 e2) (b1 e1 e3 6 12)) (b2 (j0 f0 f1) (j1 f2 f3) 3 6),
   j1 (j1 (j0 e0 e2) (b1 e1 e3 6 12)) (b2 (j0 f0 f1) (j1 f2 f3) 3 6), j1 (j1 (j1 e0 e2) (b2 e1 e3 6 12)) (b2 (j1 f0 f1) (j0 f2 f3) 10 18),
   j1 (j0 (j1 e0 e2) (b2 e1 e3 6 12)) (b1 (j1 f0 f1) (j0 f2 f3) 10 18), j1 (j0 (j0 e0 e2) (b1 e1 e3 6 12)) (b1 (j0 f0 f1) (j1 f2 f3) 3 6)]
theorem inv8_eq (e0 f0 e1 f2 e2 f1 e3 f3 : Int) : F__inverse_eight [e0, f0, e1, f2, e2, f1, e3, f3] = .ok (i8 e0 f0 e1 f2 e2 f1 e3 f3) := by
  unfold F__inverse_eight
  rw [grd_pos (show [e0, f0, e1, f2, e2, f1, e3, f3].length = 8 from rfl), itD_lit (k := 0) (a := e0) 0 rfl rfl, itD_lit (k := 1) (a := f0) 1 rfl rfl, itD_lit (k := 2) (a := e1) 2 rfl rfl, itD_lit (k := 3) (a := f2) 3 rfl rfl,
    itD_lit (k := 4) (a := e2) 4 rfl rfl, itD_lit (k := 5) (a := f1) 5 rfl rfl, itD_lit (k := 6) (a := e3) 6 rfl rfl, itD_lit (k := 7) (a := f3) 7 rfl rfl]
  show F__inverse_eight_k1 e0 f0 e1 f2 e2 f1 e3 f3 = _
  unfold F__inverse_eight_k1
  rw [join_eq]
  show F__inverse_eight_k2 e0 f0 e1 e2 f1 e3 (j0 f2 f3) (j1 f2 f3) = _
  unfold F__inverse_eight_k2
  rw [join_eq]
  show F__inverse_eight_k3 e0 e1 e2 e3 (j0 f2 f3) (j1 f2 f3) (j0 f0 f1) (j1 f0 f1) = _
  unfold F__inverse_eight_k3
  rw [back_eq _ _ ⟨by decide, by decide⟩ ⟨by decide, by decide⟩]
  unfold i8
  generalize j0 f2 f3 = d2
  generalize j1 f2 f3 = d3
  generalize j0 f0 f1 = d0
  generalize j1 f0 f1 = d1
  generalize b1 d1 d2 10 18 = h1
  generalize b2 d1 d2 10 18 = h2
  show F__inverse_eight_k4 e0 e1 e2 e3 d3 d0 h1 h2 = _
  unfold F__inverse_eight_k4
  rw [back_eq _ _ ⟨by decide, by decide⟩ ⟨by decide, by decide⟩]
  generalize b1 d0 d3 3 6 = h0
  generalize b2 d0 d3 3 6 = h3
  show F__inverse_eight_k5 e0 e1 e2 e3 h1 h2 h0 h3 = _
  unfold F__inverse_eight_k5
  rw [inv4_eq]
  unfold i4
  generalize j0 (j0 e0 e2) (b1 e1 e3 6 12) = z0
  generalize j0 (j1 e0 e2) (b2 e1 e3 6 12) = z1
  generalize j1 (j1 e0 e2) (b2 e1 e3 6 12) = z2
  generalize j1 (j0 e0 e2) (b1 e1 e3 6 12) = z3
  show F__inverse_eight_k6 h1 h2 h0 h3 [z0, z1, z2, z3] = _
  unfold F__inverse_eight_k6
  try rw [grd_pos (show [z0, z1, z2, z3].length = [h0, h1, h2, h3].length from rfl)]
  rw [show List.zip [z0, z1, z2, z3] [h0, h1, h2, h3] = [(z0, h0), (z1, h1), (z2, h2), (z3, h3)] from rfl,
    mapA4 (f := fun x => noEr (F__inverse_eight_c8 x)) (p := (j0 z0 h0, j1 z0 h0)) (q := (j0 z1 h1, j1 z1 h1)) (r := (j0 z2 h2, j1 z2 h2)) (s := (j0 z3 h3, j1 z3 h3)) rfl rfl rfl rfl]
  show F__inverse_eight_k7 [(j0 z0 h0, j1 z0 h0), (j0 z1 h1, j1 z1 h1), (j0 z2 h2, j1 z2 h2), (j0 z3 h3, j1 z3 h3)] = _
  unfold F__inverse_eight_k7
  rw [mapA4 (f := fun x => noEr (F__inverse_eight_c9 x)) (p := j0 z0 h0) (q := j0 z1 h1) (r := j0 z2 h2) (s := j0 z3 h3) rfl rfl rfl rfl, bind_ok,
    show [(j0 z0 h0, j1 z0 h0), (j0 z1 h1, j1 z1 h1), (j0 z2 h2, j1 z2 h2), (j0 z3 h3, j1 z3 h3)].reverse = [(j0 z3 h3, j1 z3 h3), (j0 z2 h2, j1 z2 h2), (j0 z1 h1, j1 z1 h1), (j0 z0 h0, j1 z0 h0)] from rfl,
    mapA4 (f := fun x => noEr (F__inverse_eight_c10 x)) (p := j1 z3 h3) (q := j1 z2 h2) (r := j1 z1 h1) (s := j1 z0 h0) rfl rfl rfl rfl, bind_ok, grd_pos (show [j0 z0 h0, j0 z1 h1, j0 z2 h2, j0 z3 h3].length + [j1 z3 h3, j1 z2 h2, j1 z1 h1, j1 z0 h0].length ≤ 1000000 from by show 4 + 4 ≤ 1000000; decide)]
  rfl
theorem F4 (a b c d : Int) : F_forward [a, b, c, d] = .ok (f4 a b c d) := by
  unfold F_forward
  show (F_check_size (4 : Int)).bind _ = _
  rw [size4, bind_ok, if_pos (show ((([a, b, c, d] : List Int).length : Nat) : Int) = 4 from rfl), four_eq, bind_ok]
theorem I4 (a b c d : Int) : F_inverse [a, b, c, d] = .ok (i4 a b c d) := by
  unfold F_inverse
  show (F_check_size (4 : Int)).bind _ = _
  rw [size4, bind_ok, if_pos (show ((([a, b, c, d] : List Int).length : Nat) : Int) = 4 from rfl), inv4_eq, bind_ok]
theorem F8 (x0 x1 x2 x3 x4 x5 x6 x7 : Int) : F_forward [x0, x1, x2, x3, x4, x5, x6, x7] = .ok (f8 x0 x1 x2 x3 x4 x5 x6 x7) := by
  unfold F_forward
  show (F_check_size (8 : Int)).bind _ = _
  rw [size8, bind_ok, if_neg (show ¬ (((([x0, x1, x2, x3, x4, x5, x6, x7] : List Int).length : Nat) : Int) = 4) by show ¬ ((8 : Int) = 4); decide), eight_eq, bind_ok]
theorem I8 (x0 x1 x2 x3 x4 x5 x6 x7 : Int) : F_inverse [x0, x1, x2, x3, x4, x5, x6, x7] = .ok (i8 x0 x1 x2 x3 x4 x5 x6 x7) := by
  unfold F_inverse
  show (F_check_size (8 : Int)).bind _ = _
  rw [size8, bind_ok, if_neg (show ¬ (((([x0, x1, x2, x3, x4, x5, x6, x7] : List Int).length : Nat) : Int) = 4) by show ¬ ((8 : Int) = 4); decide), inv8_eq, bind_ok]
theorem IF4 (a b c d : Int) : F_inverse (f4 a b c d) = .ok [a, b, c, d] := by
  unfold f4
  rw [I4]
  unfold i4
  rw [bt1, bt2, js0, js1, js0, js1, js0, js1]
theorem FI4 (a b c d : Int) : F_forward (i4 a b c d) = .ok [a, b, c, d] := by
  unfold i4
  rw [F4]
  unfold f4
  rw [sj0, sj1, sj0, sj1, sj0, sj1, tb1, tb2]
theorem IF8 (x0 x1 x2 x3 x4 x5 x6 x7 : Int) : F_inverse (f8 x0 x1 x2 x3 x4 x5 x6 x7) = .ok [x0, x1, x2, x3, x4, x5, x6, x7] := by
  unfold f8
  rw [I8]
  unfold i8
  simp only [bt1, bt2, js0, js1]
theorem FI8 (x0 x1 x2 x3 x4 x5 x6 x7 : Int) : F_forward (i8 x0 x1 x2 x3 x4 x5 x6 x7) = .ok [x0, x1, x2, x3, x4, x5, x6, x7] := by
  unfold i8
  rw [F8]
  unfold f8
  simp only [sj0, sj1, tb1, tb2]
theorem len8 {α : Type} {l : List α} (h : l.length = 8) : ∃ a b c d e f g i, l = [a, b, c, d, e, f, g, i] := by
  obtain ⟨a, r, rfl, h2⟩ := len_s h
  obtain ⟨b, c, d, e, g, i, j, rfl⟩ := len7 h2
  exact ⟨a, b, c, d, e, g, i, j, rfl⟩
/-! squares of four or eight rows -/
def fw : List Int → List Int
  | [a, b, c, d] => f4 a b c d
  | [x0, x1, x2, x3, x4, x5, x6, x7] => f8 x0 x1 x2 x3 x4 x5 x6 x7
  | _ => []
def iv : List Int → List Int
  | [a, b, c, d] => i4 a b c d
  | [x0, x1, x2, x3, x4, x5, x6, x7] => i8 x0 x1 x2 x3 x4 x5 x6 x7
  | _ => []
theorem N48.cases {l : List Int} (h : N48 l.length) : (∃ a b c d, l = [a, b, c, d]) ∨ ∃ a b c d e f g i, l = [a, b, c, d, e, f, g, i] := by
  rcases h with h | h
  · exact .inl (len4 h)
  · exact .inr (len8 h)
theorem fw_eq {l : List Int} (h : N48 l.length) : F_forward l = .ok (fw l) := by
  rcases h.cases with ⟨a, b, c, d, rfl⟩ | ⟨a, b, c, d, e, f, g, i, rfl⟩
  · exact F4 a b c d
  · exact F8 a b c d e f g i
theorem iv_eq {l : List Int} (h : N48 l.length) : F_inverse l = .ok (iv l) := by
  rcases h.cases with ⟨a, b, c, d, rfl⟩ | ⟨a, b, c, d, e, f, g, i, rfl⟩
  · exact I4 a b c d
  · exact I8 a b c d e f g i
theorem fw_len {l : List Int} (h : N48 l.length) : (fw l).length = l.length := by
  rcases h.cases with ⟨a, b, c, d, rfl⟩ | ⟨a, b, c, d, e, f, g, i, rfl⟩ <;> rfl
theorem iv_len {l : List Int} (h : N48 l.length) : (iv l).length = l.length := by
  rcases h.cases with ⟨a, b, c, d, rfl⟩ | ⟨a, b, c, d, e, f, g, i, rfl⟩ <;> rfl
theorem okj {α : Type} {a b : α} {m : Rx α} (h1 : m = .ok a) (h2 : m = .ok b) : a = b := by
  rw [h1] at h2
  injection h2
theorem ivfw {l : List Int} (h : N48 l.length) : iv (fw l) = l := by
  rcases h.cases with ⟨a, b, c, d, rfl⟩ | ⟨a, b, c, d, e, f, g, i, rfl⟩
  · exact okj (iv_eq (.inl rfl)) (IF4 a b c d)
  · exact okj (iv_eq (.inr rfl)) (IF8 a b c d e f g i)
theorem fwiv {l : List Int} (h : N48 l.length) : fw (iv l) = l := by
  rcases h.cases with ⟨a, b, c, d, rfl⟩ | ⟨a, b, c, d, e, f, g, i, rfl⟩
  · exact okj (fw_eq (.inl rfl)) (FI4 a b c d)
  · exact okj (fw_eq (.inr rfl)) (FI8 a b c d e f g i)
/-! ### rows -/
theorem minLen_sq {n : Nat} {M : List (List Int)} (h : Sq n M) (hn : 0 < n) : minLen M = n := by
  have hne : M ≠ [] := by rintro rfl; have := h.1; simp at this; omega
  obtain ⟨x, hx, e⟩ := minLen_at hne
  rw [← e, h.2 x hx]
theorem Sq.tr {n : Nat} {M : List (List Int)} (h : Sq n M) (hn : 0 < n) : Sq n (zipRows M) := by
  refine ⟨by rw [zipRows_len, minLen_sq h hn], fun r hr => ?_⟩
  unfold zipRows at hr
  obtain ⟨i, _, rfl⟩ := List.mem_map.mp hr
  rw [colOf, List.length_map, h.1]
theorem tr_row {n i : Nat} {M : List (List Int)} (h : Sq n M) (hi : i < n) : itD (zipRows M) (i : Int) = colOf M i := by
  have hn : 0 < n := by omega
  have hl : i < (zipRows M).length := by rw [(h.tr hn).1]; exact hi
  rw [itDn hl]
  have := zipRows_get (xss := M) (i := i) (by rw [minLen_sq h hn]; exact hi)
  rw [List.getElem?_eq_getElem hl] at this
  injection this
theorem col_at {n i j : Nat} {M : List (List Int)} (h : M.length = n) (hj : j < n) : itD (colOf M i) (j : Int) = itD (itD M (j : Int)) (i : Int) := by
  have h1 : j < (colOf M i).length := by rw [colOf, List.length_map, h]; exact hj
  rw [itDn h1, itDn (xs := M) (j := j) (by rw [h]; exact hj)]
  simp [colOf]
theorem at_tr {n i j : Nat} {M : List (List Int)} (h : Sq n M) (hi : i < n) (hj : j < n) : at2 (zipRows M) i j = at2 M j i := by
  unfold at2
  rw [tr_row h hi, col_at h.1 hj]
theorem tr_tr {n : Nat} {M : List (List Int)} (h : Sq n M) (hn : 0 < n) : zipRows (zipRows M) = M :=
  sq_ext ((h.tr hn).tr hn) h fun j i hj hi => by rw [at_tr (h.tr hn) hj hi, at_tr h hi hj]
section
variable {n : Nat} {M : List (List Int)}
theorem fwl (hn : N48 n) : ∀ l : List Int, l.length = n → (fw l).length = n := fun l h => by rw [fw_len (by rw [h]; exact hn), h]
theorem ivl (hn : N48 n) : ∀ l : List Int, l.length = n → (iv l).length = n := fun l h => by rw [iv_len (by rw [h]; exact hn), h]
def fsq (M : List (List Int)) : List (List Int) := zipRows ((zipRows (M.map fw)).map fw)
def isq (M : List (List Int)) : List (List Int) := (zipRows ((zipRows M).map iv)).map iv
theorem fsq_sq (h : Sq n M) (hn : N48 n) : Sq n (fsq M) := (((h.map (fwl hn)).tr hn.pos).map (fwl hn)).tr hn.pos
theorem isq_sq (h : Sq n M) (hn : N48 n) : Sq n (isq M) := (((h.tr hn.pos).map (ivl hn)).tr hn.pos).map (ivl hn)
theorem isq_fsq (h : Sq n M) (hn : N48 n) : isq (fsq M) = M := by
  have s1 := h.map (fwl hn)
  have s2 := s1.tr hn.pos
  have s3 := s2.map (fwl hn)
  unfold isq fsq
  rw [tr_tr s3 hn.pos, List.map_map, map_id' (g := iv ∘ fw) s2 (fun l hl => ivfw (by rw [hl]; exact hn)), tr_tr s1 hn.pos, List.map_map]
  exact map_id' h fun l hl => ivfw (by rw [hl]; exact hn)
theorem fsq_isq (h : Sq n M) (hn : N48 n) : fsq (isq M) = M := by
  have s1 := h.tr hn.pos
  have s2 := s1.map (ivl hn)
  have s3 := s2.tr hn.pos
  unfold isq fsq
  rw [List.map_map, map_id' (g := fw ∘ iv) s3 (fun l hl => fwiv (by rw [hl]; exact hn)), tr_tr s2 hn.pos, List.map_map, map_id' (g := fw ∘ iv) s1 (fun l hl => fwiv (by rw [hl]; exact hn)), tr_tr h hn.pos]
theorem transposed_eq (h : Sq n M) (hn : N48 n) : F_transposed M = .ok (zipRows M) := by
  unfold F_transposed
  rw [grd_pos (by rw [h.1]; rcases hn with rfl | rfl <;> simp), mapA_pure0 (f := fun x => noEr (F_transposed_c1 x)) (g := id) (fun x _ => rfl) (by rw [(h.tr hn.pos).1]; rcases hn with rfl | rfl <;> decide), bind_ok, List.map_id]
theorem isq_eq (h : Sq n M) (hn : N48 n) : F_inverse_square M = .ok (isq M) := by
  have hs := small48 hn
  unfold F_inverse_square
  have s1 := h.tr hn.pos
  have s2 := s1.map (ivl hn)
  have s3 := s2.tr hn.pos
  have key : ∀ {X : List (List Int)}, Sq n X → ∀ x ∈ X, F_inverse x = .ok (iv x) := fun hX x hx => iv_eq (by rw [hX.2 x hx]; exact hn)
  rw [check_ok h hn, bind_ok, transposed_eq h hn, bind_ok,
    mapA_pure0 (f := fun x => noEr (F_inverse_square_c1 x)) (g := iv) (fun x hx => by unfold F_inverse_square_c1; rw [key s1 x hx]; rfl) (by rw [s1.1]; omega), bind_ok,
    transposed_eq s2 hn, bind_ok, mapA_pure0 (f := fun x => noEr (F_inverse_square_c2 x)) (g := iv) (fun x hx => by unfold F_inverse_square_c2; rw [key s3 x hx]; rfl) (by rw [s3.1]; omega)]
  rfl
end
/-! the order of a transform block -/
def okIs {α : Type} [DecidableEq α] (m : Rx α) (a : α) : Bool := match m with | .ok x => decide (x = a) | _ => false
theorem of_okIs {α : Type} [DecidableEq α] {m : Rx α} {a : α} (h : okIs m a = true) : m = .ok a := by
  cases m with
  | ok x => rw [of_decide_eq_true (show decide (x = a) = true from h)]
  | er e => cases h
  | bad => cases h
def okVal {α : Type} [Inhabited α] (m : Rx α) : α := match m with | .ok x => x | _ => default
/-- the order, as the program gives it -/
def so (n : Nat) : List (Int × Int) := okVal (F_scan_order (n : Int))
theorem so_eq {n : Nat} (hn : N48 n) : F_scan_order (n : Int) = .ok (so n) := by
  rcases hn with rfl | rfl
  · exact of_okIs (by decide +kernel)
  · exact of_okIs (by decide +kernel)
def soOk (n : Nat) : Bool := decide ((so n).length = n * n) && (so n).all (fun p => decide (0 ≤ p.1 ∧ p.1 < n ∧ 0 ≤ p.2 ∧ p.2 < n)) && decide (so n).Nodup
theorem soOk_eq {n : Nat} (hn : N48 n) : soOk n = true := by
  rcases hn with rfl | rfl
  · decide +kernel
  · decide +kernel
theorem so_facts {n : Nat} (hn : N48 n) : (so n).length = n * n ∧ (∀ p ∈ so n, 0 ≤ p.1 ∧ p.1 < n ∧ 0 ≤ p.2 ∧ p.2 < n) ∧ (so n).Nodup := by
  have h := soOk_eq hn
  unfold soOk at h
  simp only [Bool.and_eq_true, decide_eq_true_eq, List.all_eq_true] at h
  exact ⟨h.1.1, h.1.2, h.2⟩
/-- the place of the j-th level -/
def ror (n j : Nat) : Nat := ((so n)[j]?.getD default).1.toNat
def cor (n j : Nat) : Nat := ((so n)[j]?.getD default).2.toNat
section
variable {n j : Nat}
theorem so_at (hn : N48 n) (hj : j < n * n) : (so n)[j]? = some ((ror n j : Int), (cor n j : Int)) ∧ ror n j < n ∧ cor n j < n := by
  obtain ⟨h1, h2, _⟩ := so_facts hn
  have hl : j < (so n).length := by rw [h1]; exact hj
  have e := List.getElem?_eq_getElem hl
  have b := h2 _ (List.getElem_mem hl)
  unfold ror cor
  rw [e]
  simp only [Option.getD_some]
  refine ⟨?_, by omega, by omega⟩
  congr 1
  exact Prod.ext (by show _ = ((_ : Nat) : Int); omega) (by show _ = ((_ : Nat) : Int); omega)
theorem so_inj (hn : N48 n) {i : Nat} (hi : i < n * n) (hj : j < n * n) (h1 : ror n i = ror n j) (h2 : cor n i = cor n j) : i = j := by
  obtain ⟨l1, _, nd⟩ := so_facts hn
  have a := (so_at hn hi).1
  have b := (so_at hn hj).1
  rw [h1, h2, ← b] at a
  exact (List.getElem?_inj (by rw [l1]; exact hi) nd).mp a
end
/-! ### a square set at places -/
section
variable {n : Nat} {M : List (List Int)}
end
/-- levels in their square -/
theorem to_square_gv {n : Nat} {L : List Int} (hn : N48 n) (hl : L.length = n * n) : Gv (F_to_square L) (fun M => Sq n M ∧ ∀ j, j < n * n → at2 M (ror n j) (cor n j) = itD L (j : Int)) := by
  have hs := small48 hn
  have hp := hn.pos
  have hin : (L.length : Int) ∈ ([16, 64] : List Int) := by rw [hl]; rcases hn with rfl | rfl <;> simp
  have hd : dictI [(16, 4), (64, 8)] (L.length : Int) = n := by rw [hl]; rcases hn with rfl | rfl <;> rfl
  unfold F_to_square
  refine Gv.pos hin (Gv.grd hin (Gv.bnd fun size hsize => ?_))
  rw [hd] at hsize
  subst hsize
  refine Gv.grd ⟨by omega, by omega⟩ ?_
  rw [Int.toNat_natCast]
  refine Gv.bind_eq (mapA_pure0 (g := fun _ => List.replicate n (0 : Int)) (fun x hx => ?_) (by rw [rng_len]; omega)) (Gv.bind_eq (so_eq hn) ?_)
  · unfold F_to_square_c1
    rw [grd_pos ⟨by omega, by omega, by show 1 * _ ≤ _; omega⟩, repl_one]
    rfl
  have s0 : Sq n ((rng 0 n).map fun _ => List.replicate n (0 : Int)) := ⟨by rw [List.length_map, rng_len], fun r hr => by obtain ⟨_, _, rfl⟩ := List.mem_map.mp hr; exact List.length_replicate⟩
  have hzl : (List.zip L (so n)).length = n * n := by rw [List.length_zip, hl, (so_facts hn).1, Nat.min_self]
  refine Gv.bind (Gv.forS (P := fun i M => Sq n M ∧ ∀ j, j < i → j < n * n → at2 M (ror n j) (cor n j) = itD L (j : Int)) ⟨s0, fun j hj _ => absurd hj (Nat.not_lt_zero _)⟩ fun i x M hx p => ?_) fun M p => .ok ⟨p.1, fun j hj => p.2 j (by rw [hzl]; exact hj) hj⟩
  have hi : i < n * n := by rw [← hzl]; exact get_len hx
  obtain ⟨h1, h2⟩ := List.getElem?_zip_eq_some.mp hx
  obtain ⟨a, ar, ac⟩ := so_at hn hi
  rw [a] at h2
  injection h2 with h2
  have hx1 : x.1 = itD L (i : Int) := by
    rw [itDn (by rw [hl]; exact hi)]
    rw [List.getElem?_eq_getElem (by rw [hl]; exact hi)] at h1
    injection h1 with h1
    exact h1.symm
  unfold F_to_square_b2
  rw [← h2, hx1]
  refine Gv.grd (by rw [p.1.1]; show -(n : Int) ≤ ((ror n i : Nat) : Int) ∧ ((ror n i : Nat) : Int) < n; omega) (Gv.grd (by rw [show itD M ((ror n i : Int), (cor n i : Int)).1 = itD M (ror n i : Int) from rfl, p.1.row ar]; show -(n : Int) ≤ ((cor n i : Nat) : Int) ∧ ((cor n i : Nat) : Int) < n; omega) (Gv.bnd fun y hy => .ok ?_))
  subst hy
  refine ⟨set_sq p.1 ar, fun j hj hjn => ?_⟩
  obtain ⟨_, br, bc⟩ := so_at hn hjn
  show at2 (setL M (ror n i : Int) (setL (itD M (ror n i : Int)) (cor n i : Int) (itD L (i : Int)))) _ _ = _
  rw [set_at p.1 ar ac br bc]
  by_cases e : i = j
  · subst e
    rw [if_pos ⟨rfl, rfl⟩]
  · rw [if_neg (fun w => e (so_inj hn hi hjn w.1 w.2))]
    exact p.2 j (by omega) hjn
theorem to_square_er {L : List Int} (h1 : L.length ≠ 16) (h2 : L.length ≠ 64) : F_to_square L = .er 1 := by
  unfold F_to_square
  rw [if_neg]
  simp
  omega
theorem so_all {n : Nat} (hn : N48 n) {a b : Nat} (ha : a < n) (hb : b < n) : ∃ j, j < n * n ∧ ror n j = a ∧ cor n j = b := by
  have key : ∀ a < n, ∀ b < n, ((a : Int), (b : Int)) ∈ so n := by
    rcases hn with rfl | rfl
    · decide +kernel
    · decide +kernel
  obtain ⟨j, hj⟩ := List.getElem?_of_mem (key a ha b hb)
  have hl : j < n * n := by rw [← (so_facts hn).1]; exact get_len hj
  have e := (so_at hn hl).1
  rw [hj] at e
  injection e with e
  injection e with e1 e2
  exact ⟨j, hl, by omega, by omega⟩
theorem fsq_eq {n : Nat} {M : List (List Int)} (h : Sq n M) (hn : N48 n) : F_forward_square M = .ok (fsq M) := by
  have hs := small48 hn
  unfold F_forward_square
  have s1 := h.map (fwl hn)
  have s2 := s1.tr hn.pos
  have s3 := s2.map (fwl hn)
  have key : ∀ {X : List (List Int)}, Sq n X → ∀ x ∈ X, F_forward x = .ok (fw x) := fun hX x hx => fw_eq (by rw [hX.2 x hx]; exact hn)
  rw [check_ok h hn, bind_ok, mapA_pure0 (f := fun x => noEr (F_forward_square_c1 x)) (g := fw) (fun x hx => by unfold F_forward_square_c1; rw [key h x hx]; rfl) (by rw [h.1]; omega), bind_ok, transposed_eq s1 hn, bind_ok,
    mapA_pure0 (f := fun x => noEr (F_forward_square_c2 x)) (g := fw) (fun x hx => by unfold F_forward_square_c2; rw [key s2 x hx]; rfl) (by rw [s2.1]; omega), bind_ok, transposed_eq s3 hn, bind_ok]
  rfl
theorem issq_ok {n : Nat} {M : List (List Int)} (h : Sq n M) : F__law_is_square M n = .ok true := by
  unfold F__law_is_square
  rw [if_pos (by rw [h.1]), forR_unit (fun x hx => ?_)]
  · rfl
  · unfold F__law_is_square_b1
    rw [if_pos (by rw [h.2 x hx]), forR_unit (fun y _ => rfl)]
    rfl
def stp (q : Int) : Int := 1 + q + q * q / 4
theorem step_eq {q : Int} (h0 : 0 ≤ q) (h1 : q < 32) : F_step_of q = .ok (stp q) := by
  unfold F_step_of
  rw [if_pos h0, if_pos (by omega), grd_pos (.inl ⟨by omega, by omega⟩)]
  rfl
theorem step_er {q : Int} (h : q < 0 ∨ 31 < q) : F_step_of q = .er 1 := by
  unfold F_step_of
  rcases h with h | h
  · rw [if_neg (by omega)]
  · rw [if_pos (by omega), if_neg (by omega)]
theorem stp_bd {q : Int} (h0 : 0 ≤ q) (h1 : q < 32) : 0 ≤ stp q ∧ stp q < 10000 := by
  have h2 : 0 ≤ q * q := Int.mul_nonneg h0 h0
  have h3 : q * q ≤ 31 * 31 := Int.mul_le_mul (by omega) (by omega) h0 (by decide)
  unfold stp
  omega
def rst (s : Int) (M : List (List Int)) : List (List Int) := M.map fun r => r.map fun x => x * s
theorem rst_sq {n : Nat} {M : List (List Int)} {s : Int} (h : Sq n M) : Sq n (rst s M) := h.map fun l hl => by rw [List.length_map, hl]
theorem restore_eq {n : Nat} {M : List (List Int)} {q : Int} (h : Sq n M) (hn : N48 n) (h0 : 0 ≤ q) (h1 : q < 32) : F_restore_square M q = .ok (rst (stp q) M) := by
  have hs := small48 hn
  have hb := stp_bd h0 h1
  unfold F_restore_square
  rw [step_eq h0 h1, bind_ok, mapA_pure0 (g := fun r => r.map fun x => x * stp q) (fun r hr => ?_) (by rw [h.1]; omega)]
  · rfl
  · have hl := h.2 r hr
    unfold F_restore_square_c1
    rw [mapA_pure0 (f := fun x => noEr (F_restore_square_c2 (stp q) x)) (g := fun x => x * stp q) (fun x hx => ?_) (by omega)]
    · rfl
    · unfold F_restore_square_c2
      rw [grd_pos (.inr ⟨by omega, by omega⟩)]
      rfl
theorem rst_at {n i j : Nat} {M : List (List Int)} {s : Int} (h : Sq n M) (hi : i < n) (hj : j < n) : at2 (rst s M) i j = at2 M i j * s := by
  unfold at2 rst
  rw [itD_map (by rw [h.1]; omega), itD_map (by rw [h.row hi]; omega)]
theorem residue_gv {n : Nat} {L : List Int} {q : Int} (hn : N48 n) (hl : L.length = n * n) (h0 : 0 ≤ q) (h1 : q < 32) : Gv (F_residue_of L q) (fun R => Sq n R ∧ ∃ M, Sq n M ∧ (∀ j, j < n * n → at2 M (ror n j) (cor n j) = itD L (j : Int)) ∧ fsq R = rst (stp q) M) := by
  unfold F_residue_of
  refine Gv.bind (to_square_gv hn hl) fun M hM => Gv.bind_eq (restore_eq hM.1 hn h0 h1) (Gv.bind_eq (isq_eq (rst_sq hM.1) hn) (.ok ⟨isq_sq (rst_sq hM.1) hn, M, hM.1, hM.2, fsq_isq (rst_sq hM.1) hn⟩))
theorem refused1 {L : List Int} {q : Int} (h1 : L.length ≠ 16) (h2 : L.length ≠ 64) : F__law_refused L q = .ok true := by
  unfold F__law_refused F_residue_of
  rw [to_square_er h1 h2]
  exact tryR_er (by simp) _ _
theorem refused2 {n : Nat} {L : List Int} {q : Int} (hn : N48 n) (hl : L.length = n * n) (h : q < 0 ∨ 31 < q) : F__law_refused L q = .ok true := by
  obtain ⟨M, e, _⟩ := (to_square_gv hn hl).eq
  unfold F__law_refused F_residue_of F_restore_square
  rw [e, bind_ok, step_er h]
  exact tryR_er (by simp) _ _
theorem k5_ok {n : Nat} {cell q len : Int} {L : List Int} (hc : 0 ≤ cell) (hn : N48 n) (hl : L.length = n * n) (h0 : 0 ≤ len) (h1 : len < 80) (h16 : len ≠ 16) (h64 : len ≠ 64) : F_law_k5 cell q L len = .ok (.go ()) := by
  refine Gv.get ?_
  unfold F_law_k5
  have e := repl_len (x := 1) h0
  refine Gv.grd ⟨by omega, by omega, by show 1 * _ ≤ _; omega⟩ (Gv.bind_eq (refused1 (by omega) (by omega)) (Gv.pos rfl (Gv.bind_eq (refused2 hn hl (.inr (by omega))) (Gv.pos rfl (Gv.bind_eq (refused2 hn hl (.inl (by omega))) (Gv.pos rfl (.ok rfl)))))))
theorem r4_ok {n : Nat} {cell q : Int} {L : List Int} (hc : 0 ≤ cell) (hn : N48 n) (hl : L.length = n * n) : F_law_r4 cell q L = .ok (.go ()) := by
  refine Gv.get ?_
  unfold F_law_r4
  refine Gv.bnd fun len hlen => Gv.bind (P := fun w => 0 ≤ w ∧ w < 80 ∧ w ≠ 16 ∧ w ≠ 64) ?_ fun w h => .of_eq (k5_ok hc hn hl h.1 h.2.1 h.2.2.1 h.2.2.2) rfl
  exact Gv.ite (fun _ => .ok ⟨by decide, by decide, by decide, by decide⟩) fun c4 => Gv.ite (fun _ => .ok ⟨by decide, by decide, by decide, by decide⟩) fun c8 => .ok ⟨by omega, by omega, c4, c8⟩
theorem k3_ok {n : Nat} {cell q : Int} {L : List Int} (hc : 0 ≤ cell) (hn : N48 n) (hl : L.length = n * n) (h0 : 0 ≤ q) (h1 : q < 32) : F_law_k3 cell n q (stp q) L = .ok (.go ()) := by
  refine Gv.get ?_
  have hs := small48 hn
  have hnn := nn_le hn
  have hb := stp_bd h0 h1
  unfold F_law_k3
  have hcast : (n : Int) * n = ((n * n : Nat) : Int) := by rw [Int.natCast_mul]
  refine Gv.bind (residue_gv hn hl h0 h1) fun R hR => ?_
  obtain ⟨hS, M, hM, hat, hf⟩ := hR
  refine Gv.bind_eq (issq_ok hS) (Gv.pos rfl (Gv.pos rfl (Gv.bind_eq (fsq_eq hS hn) (Gv.bind_eq (so_eq hn) (Gv.grd (.inl ⟨by omega, by omega⟩) (Gv.grd (by rw [hcast]; omega) ?_))))))
  rw [hcast, Int.toNat_natCast, hf]
  refine Gv.bind_eq (forR_unit fun x hx => ?_) (.of_eq (r4_ok hc hn hl) rfl)
  have hx := rng_mem hx
  obtain ⟨j, rfl⟩ : ∃ j : Nat, x = (j : Int) := ⟨x.toNat, by omega⟩
  have hj : j < n * n := by omega
  obtain ⟨a, ar, ac⟩ := so_at hn hj
  have hso := (so_facts hn).1
  have e : itD (so n) (j : Int) = ((ror n j : Int), (cor n j : Int)) := by
    have h2 : j < (so n).length := by rw [hso]; exact hj
    rw [itDn h2]
    rw [List.getElem?_eq_getElem h2] at a
    injection a
  have hR := rst_sq (s := stp q) hM
  unfold F_law_b4
  rw [e]
  refine Gv.get ?_
  refine Gv.grd (by rw [hso]; omega) (Gv.grd (by rw [hR.1]; show -(n : Int) ≤ ((ror n j : Nat) : Int) ∧ ((ror n j : Nat) : Int) < n; omega) (Gv.grd (by rw [hso]; omega) (Gv.grd ?_ (Gv.grd (by rw [hl]; omega) (Gv.grd (.inr ⟨by omega, by omega⟩) ?_)))))
  · rw [show itD (rst (stp q) M) ((ror n j : Int), (cor n j : Int)).1 = itD (rst (stp q) M) (ror n j : Int) from rfl, hR.row ar]
    show -(n : Int) ≤ ((cor n j : Nat) : Int) ∧ ((cor n j : Nat) : Int) < n
    omega
  · refine Gv.pos ?_ (.ok rfl)
    show at2 (rst (stp q) M) (ror n j) (cor n j) = _
    rw [rst_at hM ar ac, hat j hj]
theorem b1_ok (s : List Int) (k : Int) (hk : 0 ≤ k) : F_law_b1 s k = .ok (.go ()) := by
  refine Gv.get ?_
  unfold F_law_b1
  refine Gv.bind (cell_gv s k hk) fun c0 hc0 => Gv.bnd fun cell hcell => Gv.bnd fun size hsize => Gv.bnd fun q hq => Gv.grd (.inl ⟨by omega, by omega⟩) (Gv.bnd fun st hst => Gv.grd (ixl (xs := [3, 2000, 524287]) 3 rfl (by omega) (by omega)) (Gv.bnd fun most hmost => ?_))
  have hm : 0 ≤ most ∧ most ≤ 524287 := by
    have := itD_mem (xs := ([3, 2000, 524287] : List Int)) (k := cell / 5 % 3) (ixl (xs := [3, 2000, 524287]) 3 rfl (by omega) (by omega))
    rw [← hmost] at this
    simp at this
    omega
  have hst : st = stp q := hst
  subst hst
  obtain ⟨n, rfl⟩ : ∃ n : Nat, size = (n : Int) := ⟨size.toNat, by omega⟩
  have hn : N48 n := by unfold N48; omega
  have hs := small48 hn
  have hp := hn.pos
  have hnn := nn_le hn
  have hp2 : 0 < n * n := Nat.mul_pos hp hp
  have hcast : (n : Int) * n = ((n * n : Nat) : Int) := by rw [Int.natCast_mul]
  rw [hcast]
  refine Gv.grd (.inl ⟨by omega, by omega⟩) (Gv.bind (digits_gv _ _ _ (by omega) (by omega) (by omega) (by omega)) fun d hd => Gv.bind_eq (mapA_pure0 (g := fun x => x - most) (fun x _ => rfl) (by omega)) (Gv.bind (P := fun L => L.length = n * n) ?_ fun L hL => .of_eq (k3_ok (by omega) hn hL (by omega) (by omega)) rfl))
  refine Gv.ite (fun _ => Gv.grd (.inl ⟨by omega, by omega⟩) (Gv.grd ⟨by omega, by omega, by show 1 * _ ≤ _; omega⟩ (Gv.grd (.inl ⟨by omega, by omega⟩) (Gv.grd (by omega) (Gv.grd ?_ (Gv.bnd fun L hL => .ok ?_)))))) fun _ => .ok ?_
  · rw [repl_len (by omega), Int.toNat_natCast]
    have h1 := Int.emod_nonneg (cell / 11) (show ((n * n : Nat) : Int) ≠ 0 by omega)
    have h2 := Int.emod_lt_of_pos (cell / 11) (show (0 : Int) < ((n * n : Nat) : Int) by omega)
    omega
  · subst hL
    rw [setL_len, repl_len (by omega), Int.toNat_natCast]
  · rw [List.length_map]
    have := hd.1
    omega
theorem law_true (xs : List Int) (h : xs.length ≤ 63) : F_law xs = .ok true := by
  unfold F_law
  rw [grd_pos (by split <;> omega), forR_unit (fun x hx => b1_ok xs x (rng_mem hx).1)]
  rfl

end Vx
namespace Vx
open PySem PySem.Spec PyProof.Rows L2
def topS (i : Nat) : Stmt := PySem.Challenge.pw_thaumatrope_k53_residue_of_a_transform_b.main.body.getD i (.Pass ⟨0, 0, 0, 0⟩)
abbrev s_check_size : Stmt := topS 9
abbrev s_check_square : Stmt := topS 10
abbrev s_turn_back : Stmt := topS 20
abbrev s_join_pair : Stmt := topS 18
abbrev s__inverse_four : Stmt := topS 26
abbrev s__inverse_eight : Stmt := topS 28
abbrev s_inverse : Stmt := topS 22
abbrev s_transposed : Stmt := topS 11
abbrev s_inverse_square : Stmt := topS 24
abbrev s_step_of : Stmt := topS 5
abbrev s_restore_square : Stmt := topS 6
abbrev s_scan_order : Stmt := topS 14
abbrev s_to_square : Stmt := topS 15
abbrev s_residue_of : Stmt := topS 30
abbrev s_split_pair : Stmt := topS 17
abbrev s_turn_pair : Stmt := topS 19
abbrev s__forward_four : Stmt := topS 25
abbrev s__forward_eight : Stmt := topS 27
abbrev s_forward : Stmt := topS 21
abbrev s_forward_square : Stmt := topS 23
abbrev s__law_cell : Stmt := topS 32
abbrev s__law_refused : Stmt := topS 35
abbrev s__law_digits : Stmt := topS 33
abbrev s__law_is_square : Stmt := topS 34
abbrev s_law : Stmt := topS 36
structure Ads where
  x_CodecError : Addr
  x_OutOfRange : Addr
  t_SIZES : Addr
  t_SIZES_BY_COUNT : Addr
  z0 : Addr
def excA (AD : Ads) : Nat → Addr
  | 0 => AD.x_CodecError
  | 1 => AD.x_OutOfRange
  | _ => AD.z0
structure Txt (K : PySem.W.Frag) (mg : Str → Option Value) (AD : Ads) : Prop where
  g_SIZES : ∃ u, mg "SIZES" = some u ∧ RelV (V.ref AD.t_SIZES) u
  ts_SIZES : ∀ H, SqT K H AD.t_SIZES (([4, 8] : List Int).map V.int)
  b_len : mg "len" = none
  b_zip : mg "zip" = none
  b_list : mg "list" = none
  g_GREATEST_QUANTIZER : ∃ u, mg "GREATEST_QUANTIZER" = some u ∧ RelV (V.int 31) u
  b_range : mg "range" = none
  g_SIZES_BY_COUNT : ∃ u, mg "SIZES_BY_COUNT" = some u ∧ RelV (V.ref AD.t_SIZES_BY_COUNT) u
  kd_SIZES_BY_COUNT : KDI K AD.t_SIZES_BY_COUNT [(16, 4), (64, 8)]
  b_abs : mg "abs" = none
  b_int : mg "int" = none
  b_isinstance : mg "isinstance" = none
  b_bool : mg "bool" = none
  b_min : mg "min" = none
  xg_OutOfRange : mg "OutOfRange" = some (.ref AD.x_OutOfRange)
  xx_OutOfRange : PySem.W.excIn K AD.x_OutOfRange [.type "ValueError", .type "Exception", .type "BaseException", .type "object"] "ValueError.__new__" = true
  xk_OutOfRange : PySem.W.keepIn K (.ref AD.x_OutOfRange) = true
  xb_OutOfRange : PySem.W.subIn K (.ref AD.x_OutOfRange) (.type "BaseException") = some true
  xt_OutOfRange : PySem.W.typeIn K (.ref AD.x_OutOfRange) = some (.type "type")
  xm_OutOfRange_OutOfRange : PySem.W.exmOne K (.ref AD.x_OutOfRange) (.ref AD.x_OutOfRange) = some true
abbrev pat_check_size_0 : Pat := (1, [], fun vs _ => vs)
abbrev pats_check_size : List Pat := [pat_check_size_0]
abbrev pat_check_square_0 : Pat := (1, [], fun vs _ => vs)
abbrev pats_check_square : List Pat := [pat_check_square_0]
abbrev pat_turn_back_0 : Pat := (2, ["outer", "inner"], fun vs zs => match vs, zs with | [a0, a1], [b0, b1] => [a0, a1, b0, b1] | _, _ => [])
abbrev pats_turn_back : List Pat := [pat_turn_back_0]
abbrev pat_join_pair_0 : Pat := (2, [], fun vs _ => vs)
abbrev pats_join_pair : List Pat := [pat_join_pair_0]
abbrev pat__inverse_four_0 : Pat := (1, [], fun vs _ => vs)
abbrev pats__inverse_four : List Pat := [pat__inverse_four_0]
abbrev pat__inverse_eight_0 : Pat := (1, [], fun vs _ => vs)
abbrev pats__inverse_eight : List Pat := [pat__inverse_eight_0]
abbrev pat_inverse_0 : Pat := (1, [], fun vs _ => vs)
abbrev pats_inverse : List Pat := [pat_inverse_0]
abbrev pat_transposed_0 : Pat := (1, [], fun vs _ => vs)
abbrev pats_transposed : List Pat := [pat_transposed_0]
abbrev pat_inverse_square_0 : Pat := (1, [], fun vs _ => vs)
abbrev pats_inverse_square : List Pat := [pat_inverse_square_0]
abbrev pat_step_of_0 : Pat := (1, [], fun vs _ => vs)
abbrev pats_step_of : List Pat := [pat_step_of_0]
abbrev pat_restore_square_0 : Pat := (2, [], fun vs _ => vs)
abbrev pats_restore_square : List Pat := [pat_restore_square_0]
abbrev pat_scan_order_0 : Pat := (1, [], fun vs _ => vs)
abbrev pats_scan_order : List Pat := [pat_scan_order_0]
abbrev pat_to_square_0 : Pat := (1, [], fun vs _ => vs)
abbrev pats_to_square : List Pat := [pat_to_square_0]
abbrev pat_residue_of_0 : Pat := (2, [], fun vs _ => vs)
abbrev pats_residue_of : List Pat := [pat_residue_of_0]
abbrev pat_split_pair_0 : Pat := (2, [], fun vs _ => vs)
abbrev pats_split_pair : List Pat := [pat_split_pair_0]
abbrev pat_turn_pair_0 : Pat := (2, ["outer", "inner"], fun vs zs => match vs, zs with | [a0, a1], [b0, b1] => [a0, a1, b0, b1] | _, _ => [])
abbrev pats_turn_pair : List Pat := [pat_turn_pair_0]
abbrev pat__forward_four_0 : Pat := (1, [], fun vs _ => vs)
abbrev pats__forward_four : List Pat := [pat__forward_four_0]
abbrev pat__forward_eight_0 : Pat := (1, [], fun vs _ => vs)
abbrev pats__forward_eight : List Pat := [pat__forward_eight_0]
abbrev pat_forward_0 : Pat := (1, [], fun vs _ => vs)
abbrev pats_forward : List Pat := [pat_forward_0]
abbrev pat_forward_square_0 : Pat := (1, [], fun vs _ => vs)
abbrev pats_forward_square : List Pat := [pat_forward_square_0]
abbrev pat__law_cell_0 : Pat := (2, [], fun vs _ => vs)
abbrev pats__law_cell : List Pat := [pat__law_cell_0]
abbrev pat__law_refused_0 : Pat := (2, [], fun vs _ => vs)
abbrev pats__law_refused : List Pat := [pat__law_refused_0]
abbrev pat__law_digits_0 : Pat := (3, [], fun vs _ => vs)
abbrev pats__law_digits : List Pat := [pat__law_digits_0]
abbrev pat__law_is_square_0 : Pat := (2, [], fun vs _ => vs)
abbrev pats__law_is_square : List Pat := [pat__law_is_square_0]
abbrev pats_law : List Pat := []
def sp_check_size (K : PySem.W.Frag) (AD : Ads) : Sp := fun vs H Q E => ∃ (G : Hp) (size' : Int), vs = [.int size'] ∧ Same G H ∧ cW (F_check_size size') (fun v => Q .non H) (fun e => E (.ref (excA AD e)) none H)
def sp_check_square (K : PySem.W.Frag) (AD : Ads) : Sp := fun vs H Q E => ∃ (G : Hp) (v_square : V) (square' : (List (List Int))), vs = [v_square] ∧ Same G H ∧ Rp (hideL [] H) v_square ((encL (encL PyData.int)) square') ∧ cW (F_check_square square') (fun v => ∀ H', Same H H' → Q .non H') (fun e => ∀ H', Same H H' → E (.ref (excA AD e)) none H')
def sp_turn_back (K : PySem.W.Frag) (AD : Ads) : Sp := fun vs H Q E => ∃ (G : Hp) (first' : Int) (second' : Int) (outer' : Int) (inner' : Int), vs = [.int first', .int second', .int outer', .int inner'] ∧ Same G H ∧ cW (F_turn_back first' second' outer' inner') (fun v => ∀ u H' G', Same H H' → Same G G' → Same G' H' → (∀ b, H b ≠ none → G b = none → G' b = none) → Rp G' u ((encT2 PyData.int PyData.int) v) → Q u H') (fun e => ∀ H', Same H H' → E (.ref (excA AD e)) none H')
def sp_join_pair (K : PySem.W.Frag) (AD : Ads) : Sp := fun vs H Q E => ∃ (G : Hp) (low' : Int) (high' : Int), vs = [.int low', .int high'] ∧ Same G H ∧ cW (F_join_pair low' high') (fun v => ∀ u H' G', Same H H' → Same G G' → Same G' H' → (∀ b, H b ≠ none → G b = none → G' b = none) → Rp G' u ((encT2 PyData.int PyData.int) v) → Q u H') (fun e => ∀ H', Same H H' → E (.ref (excA AD e)) none H')
def sp__inverse_four (K : PySem.W.Frag) (AD : Ads) : Sp := fun vs H Q E => ∃ (G : Hp) (a_values : Addr) (values' : List Int), vs = [.ref a_values] ∧ Same G H ∧ (hideL [] H) a_values = some (.lst ((values' : List Int).map V.int)) ∧ cW (F__inverse_four values') (fun v => ∀ p H', H p = none → Same H H' → H' p = some (.lst (v.map V.int)) → Q (.ref p) H') (fun e => ∀ H', Same H H' → E (.ref (excA AD e)) none H')
def sp__inverse_eight (K : PySem.W.Frag) (AD : Ads) : Sp := fun vs H Q E => ∃ (G : Hp) (a_values : Addr) (values' : List Int), vs = [.ref a_values] ∧ Same G H ∧ (hideL [] H) a_values = some (.lst ((values' : List Int).map V.int)) ∧ cW (F__inverse_eight values') (fun v => ∀ p H', H p = none → Same H H' → H' p = some (.lst (v.map V.int)) → Q (.ref p) H') (fun e => ∀ H', Same H H' → E (.ref (excA AD e)) none H')
def sp_inverse (K : PySem.W.Frag) (AD : Ads) : Sp := fun vs H Q E => ∃ (G : Hp) (a_values : Addr) (values' : List Int), vs = [.ref a_values] ∧ Same G H ∧ (hideL [] H) a_values = some (.lst ((values' : List Int).map V.int)) ∧ cW (F_inverse values') (fun v => ∀ p H', H p = none → Same H H' → H' p = some (.lst (v.map V.int)) → Q (.ref p) H') (fun e => ∀ H', Same H H' → E (.ref (excA AD e)) none H')
def sp_transposed (K : PySem.W.Frag) (AD : Ads) : Sp := fun vs H Q E => ∃ (G : Hp) (v_rows : V) (rows' : (List (List Int))), vs = [v_rows] ∧ Same G H ∧ Rp (hideL [] H) v_rows ((encL (encL PyData.int)) rows') ∧ cW (F_transposed rows') (fun v => ∀ (H' : Hp) (a : Addr) (vs : List V) (L : List Addr) (G' : Hp), H a = none → (∀ b ∈ L, H b = none) → (∀ b ∈ L, b ≠ a) → Same H H' → Same G G' → Same G' H' → (∀ b, H b ≠ none → G b = none → G' b = none) → G' a = none → (∀ b ∈ L, G' b = none) → H' a = some (.lst vs) → OwAll G' H' L vs ((v : (List (List Int))).map (oL oI)) → Q (.ref a) H') (fun e => ∀ H', Same H H' → E (.ref (excA AD e)) none H')
def sp_inverse_square (K : PySem.W.Frag) (AD : Ads) : Sp := fun vs H Q E => ∃ (G : Hp) (v_square : V) (square' : (List (List Int))), vs = [v_square] ∧ Same G H ∧ Rp (hideL [] H) v_square ((encL (encL PyData.int)) square') ∧ cW (F_inverse_square square') (fun v => ∀ (H' : Hp) (a : Addr) (vs : List V) (L : List Addr) (G' : Hp), H a = none → (∀ b ∈ L, H b = none) → (∀ b ∈ L, b ≠ a) → Same H H' → Same G G' → Same G' H' → (∀ b, H b ≠ none → G b = none → G' b = none) → G' a = none → (∀ b ∈ L, G' b = none) → H' a = some (.lst vs) → OwAll G' H' L vs ((v : (List (List Int))).map (oL oI)) → Q (.ref a) H') (fun e => ∀ H', Same H H' → E (.ref (excA AD e)) none H')
def sp_step_of (K : PySem.W.Frag) (AD : Ads) : Sp := fun vs H Q E => ∃ (G : Hp) (quantizer' : Int), vs = [.int quantizer'] ∧ Same G H ∧ cW (F_step_of quantizer') (fun v => Q (.int v) H) (fun e => E (.ref (excA AD e)) none H)
def sp_restore_square (K : PySem.W.Frag) (AD : Ads) : Sp := fun vs H Q E => ∃ (G : Hp) (v_square : V) (square' : (List (List Int))) (quantizer' : Int), vs = [v_square, .int quantizer'] ∧ Same G H ∧ Rp (hideL [] H) v_square ((encL (encL PyData.int)) square') ∧ cW (F_restore_square square' quantizer') (fun v => ∀ (H' : Hp) (a : Addr) (vs : List V) (L : List Addr) (G' : Hp), H a = none → (∀ b ∈ L, H b = none) → (∀ b ∈ L, b ≠ a) → Same H H' → Same G G' → Same G' H' → (∀ b, H b ≠ none → G b = none → G' b = none) → G' a = none → (∀ b ∈ L, G' b = none) → H' a = some (.lst vs) → OwAll G' H' L vs ((v : (List (List Int))).map (oL oI)) → Q (.ref a) H') (fun e => ∀ H', Same H H' → E (.ref (excA AD e)) none H')
def sp_scan_order (K : PySem.W.Frag) (AD : Ads) : Sp := fun vs H Q E => ∃ (G : Hp) (size' : Int), vs = [.int size'] ∧ Same G H ∧ cW (F_scan_order size') (fun v => ∀ u H' G', Same H H' → Same G G' → Same G' H' → (∀ b, H b ≠ none → G b = none → G' b = none) → Rp G' u ((encL (encT2 PyData.int PyData.int)) v) → Q u H') (fun e => ∀ H', Same H H' → E (.ref (excA AD e)) none H')
def sp_to_square (K : PySem.W.Frag) (AD : Ads) : Sp := fun vs H Q E => ∃ (G : Hp) (a_levels : Addr) (levels' : List Int), vs = [.ref a_levels] ∧ Same G H ∧ (hideL [] H) a_levels = some (.lst ((levels' : List Int).map V.int)) ∧ cW (F_to_square levels') (fun v => ∀ (H' : Hp) (a : Addr) (vs : List V) (L : List Addr) (G' : Hp), H a = none → (∀ b ∈ L, H b = none) → (∀ b ∈ L, b ≠ a) → Same H H' → Same G G' → Same G' H' → (∀ b, H b ≠ none → G b = none → G' b = none) → G' a = none → (∀ b ∈ L, G' b = none) → H' a = some (.lst vs) → OwAll G' H' L vs ((v : (List (List Int))).map (oL oI)) → Q (.ref a) H') (fun e => ∀ H', Same H H' → E (.ref (excA AD e)) none H')
def sp_residue_of (K : PySem.W.Frag) (AD : Ads) : Sp := fun vs H Q E => ∃ (G : Hp) (a_levels : Addr) (levels' : List Int) (quantizer' : Int), vs = [.ref a_levels, .int quantizer'] ∧ Same G H ∧ (hideL [] H) a_levels = some (.lst ((levels' : List Int).map V.int)) ∧ cW (F_residue_of levels' quantizer') (fun v => ∀ (H' : Hp) (a : Addr) (vs : List V) (L : List Addr) (G' : Hp), H a = none → (∀ b ∈ L, H b = none) → (∀ b ∈ L, b ≠ a) → Same H H' → Same G G' → Same G' H' → (∀ b, H b ≠ none → G b = none → G' b = none) → G' a = none → (∀ b ∈ L, G' b = none) → H' a = some (.lst vs) → OwAll G' H' L vs ((v : (List (List Int))).map (oL oI)) → Q (.ref a) H') (fun e => ∀ H', Same H H' → E (.ref (excA AD e)) none H')
def sp_split_pair (K : PySem.W.Frag) (AD : Ads) : Sp := fun vs H Q E => ∃ (G : Hp) (first' : Int) (second' : Int), vs = [.int first', .int second'] ∧ Same G H ∧ cW (F_split_pair first' second') (fun v => ∀ u H' G', Same H H' → Same G G' → Same G' H' → (∀ b, H b ≠ none → G b = none → G' b = none) → Rp G' u ((encT2 PyData.int PyData.int) v) → Q u H') (fun e => ∀ H', Same H H' → E (.ref (excA AD e)) none H')
def sp_turn_pair (K : PySem.W.Frag) (AD : Ads) : Sp := fun vs H Q E => ∃ (G : Hp) (first' : Int) (second' : Int) (outer' : Int) (inner' : Int), vs = [.int first', .int second', .int outer', .int inner'] ∧ Same G H ∧ cW (F_turn_pair first' second' outer' inner') (fun v => ∀ u H' G', Same H H' → Same G G' → Same G' H' → (∀ b, H b ≠ none → G b = none → G' b = none) → Rp G' u ((encT2 PyData.int PyData.int) v) → Q u H') (fun e => ∀ H', Same H H' → E (.ref (excA AD e)) none H')
def sp__forward_four (K : PySem.W.Frag) (AD : Ads) : Sp := fun vs H Q E => ∃ (G : Hp) (a_values : Addr) (values' : List Int), vs = [.ref a_values] ∧ Same G H ∧ (hideL [] H) a_values = some (.lst ((values' : List Int).map V.int)) ∧ cW (F__forward_four values') (fun v => ∀ p H', H p = none → Same H H' → H' p = some (.lst (v.map V.int)) → Q (.ref p) H') (fun e => ∀ H', Same H H' → E (.ref (excA AD e)) none H')
def sp__forward_eight (K : PySem.W.Frag) (AD : Ads) : Sp := fun vs H Q E => ∃ (G : Hp) (a_values : Addr) (values' : List Int), vs = [.ref a_values] ∧ Same G H ∧ (hideL [] H) a_values = some (.lst ((values' : List Int).map V.int)) ∧ cW (F__forward_eight values') (fun v => ∀ p H', H p = none → Same H H' → H' p = some (.lst (v.map V.int)) → Q (.ref p) H') (fun e => ∀ H', Same H H' → E (.ref (excA AD e)) none H')
def sp_forward (K : PySem.W.Frag) (AD : Ads) : Sp := fun vs H Q E => ∃ (G : Hp) (a_values : Addr) (values' : List Int), vs = [.ref a_values] ∧ Same G H ∧ (hideL [] H) a_values = some (.lst ((values' : List Int).map V.int)) ∧ cW (F_forward values') (fun v => ∀ p H', H p = none → Same H H' → H' p = some (.lst (v.map V.int)) → Q (.ref p) H') (fun e => ∀ H', Same H H' → E (.ref (excA AD e)) none H')
def sp_forward_square (K : PySem.W.Frag) (AD : Ads) : Sp := fun vs H Q E => ∃ (G : Hp) (v_square : V) (square' : (List (List Int))), vs = [v_square] ∧ Same G H ∧ Rp (hideL [] H) v_square ((encL (encL PyData.int)) square') ∧ cW (F_forward_square square') (fun v => ∀ (H' : Hp) (a : Addr) (vs : List V) (L : List Addr) (G' : Hp), H a = none → (∀ b ∈ L, H b = none) → (∀ b ∈ L, b ≠ a) → Same H H' → Same G G' → Same G' H' → (∀ b, H b ≠ none → G b = none → G' b = none) → G' a = none → (∀ b ∈ L, G' b = none) → H' a = some (.lst vs) → OwAll G' H' L vs ((v : (List (List Int))).map (oL oI)) → Q (.ref a) H') (fun e => ∀ H', Same H H' → E (.ref (excA AD e)) none H')
def sp__law_cell (K : PySem.W.Frag) (AD : Ads) : Sp := fun vs H Q E => ∃ (G : Hp) (a_script : Addr) (script' : List Int) (k' : Int), vs = [.ref a_script, .int k'] ∧ Same G H ∧ SqL K H a_script ((script' : List Int).map V.int) ∧ cW (F__law_cell script' k') (fun v => Q (.int v) H) (fun e => E (.ref (excA AD e)) none H)
def sp__law_refused (K : PySem.W.Frag) (AD : Ads) : Sp := fun vs H Q E => ∃ (G : Hp) (a_levels : Addr) (levels' : List Int) (quantizer' : Int), vs = [.ref a_levels, .int quantizer'] ∧ Same G H ∧ (hideL [] H) a_levels = some (.lst ((levels' : List Int).map V.int)) ∧ cW (F__law_refused levels' quantizer') (fun v => ∀ H', Same H H' → Q (.bl v) H') (fun e => ∀ H', Same H H' → E (.ref (excA AD e)) none H')
def sp__law_digits (K : PySem.W.Frag) (AD : Ads) : Sp := fun vs H Q E => ∃ (G : Hp) (cell' : Int) (base' : Int) (most' : Int), vs = [.int cell', .int base', .int most'] ∧ Same G H ∧ cW (F__law_digits cell' base' most') (fun v => ∀ p H', H p = none → Same H H' → H' p = some (.lst (v.map V.int)) → Q (.ref p) H') (fun e => ∀ H', Same H H' → E (.ref (excA AD e)) none H')
def sp__law_is_square (K : PySem.W.Frag) (AD : Ads) : Sp := fun vs H Q E => ∃ (G : Hp) (v_actual : V) (actual' : (List (List Int))) (size' : Int), vs = [v_actual, .int size'] ∧ Same G H ∧ Rp (hideL [] H) v_actual ((encL (encL PyData.int)) actual') ∧ cW (F__law_is_square actual' size') (fun v => ∀ H', Same H H' → Q (.bl v) H') (fun e => ∀ H', Same H H' → E (.ref (excA AD e)) none H')
def sp_law (K : PySem.W.Frag) (AD : Ads) : Sp := fun vs H Q E => ∃ (a_script : Addr) (script : List Int), vs = [.ref a_script] ∧ SqL K H a_script (script.map V.int) ∧ cW (F_law script) (fun v => v = true) (fun _ => False) ∧ ∀ H', Q (.bl true) H'
section
variable {P : Program} {w : World} {K : PySem.W.Frag} {mg : Str → Option Value} {base : Heap} {AD : Ads}
abbrev N_check_size : List Str := ["size"]
theorem sc_check_size : FnScope N_check_size ["size"] (defScope s_check_size) := ⟨rfl, rfl, rfl, by decide +kernel, rfl, by decide +kernel, by decide +kernel⟩
theorem ok_check_size (D : DefX K mg "check_size" s_check_size ["size"] pats_check_size) (T : Txt K mg AD)  : CalX P w K mg base 1 "check_size" (sp_check_size K AD) pats_check_size := by
  refine D.ok sc_check_size (fun vs H Q E h => ?_) (fun f cdv A_ outer s H vs Q E hr h => ?_)
  · obtain ⟨G, size', rfl, _⟩ := h
    rfl
  · obtain ⟨G, size', rfl, sG, hw⟩ := h
    refine ⟨_, (pss_one (ps_if (pt_cmpR (op_notInI (K := K)) (pv 0) (C8.pe_gc (v := V.ref AD.t_SIZES) rfl T.g_SIZES) (by with_unfolding_all rfl)) (pss_one (ps_raise rfl (takes_of rfl rfl rfl rfl) (pmk_own PySem.F.excBase_ValueError T.xx_OutOfRange T.xg_OutOfRange T.xk_OutOfRange (raises_own T.xb_OutOfRange T.xt_OutOfRange) rfl))) pss_nil)), ?_⟩
    obtain ⟨KK, EE, hK0, hE, hw⟩ := cW_gen hw
    have S0 := Sep.startG sG
    unfold F_check_size at hw
    refine ⟨_, rfl, _, _, ([4, 8] : List Int), rfl, rfl, (.inr (T.ts_SIZES _)), _, rfl, ?_⟩
    refine iteN (fun c1 => ?_) (fun c1 => ?_)
    · have hw := cW_neg c1 hw
      exact hE 1 (cW_er hw)
    · have hw := cW_pos c1 hw
      have hw := cW_ok hw
      exact hK0 _ hw

abbrev N_check_square : List Str := ["square", "row"]
theorem sc_check_square : FnScope N_check_square ["square"] (defScope s_check_square) := ⟨rfl, rfl, rfl, by decide +kernel, rfl, by decide +kernel, by decide +kernel⟩
theorem ok_check_square (D : DefX K mg "check_square" s_check_square ["square"] pats_check_square) (T : Txt K mg AD) (c_check_size : CalX P w K mg base 1 "check_size" (sp_check_size K AD) pats_check_size) : CalX P w K mg base 2 "check_square" (sp_check_square K AD) pats_check_square := by
  refine D.ok sc_check_square (fun vs H Q E h => ?_) (fun f cdv A_ outer s H vs Q E hr h => ?_)
  · obtain ⟨G, v_square, square', rfl, _⟩ := h
    rfl
  · obtain ⟨G, v_square, square', rfl, sG, r_square, hw⟩ := h
    refine ⟨_, (pss_cons (ps_expr (vx_callX c_check_size pat_check_size_0 (.head _) hr (by decide) (takes_of rfl rfl rfl rfl) rfl (pa_cons (pe_callB (call_lenLK (K := K)) (by rfl) T.b_len (by decide +kernel) (pa_cons (pv 0) pa_nil)) pa_nil) pk_nil))
      (pss_one (ps_for (passes_of rfl) rfl (pi_listK (K := K) (pv 0)) (pg_name (i := 1) sc_check_square.nd rfl (Or.inl rfl)) (pss_one (ps_if (pt_cmp (pc_neI (pe_callB (call_lenLiK (K := K)) (by rfl) T.b_len (by decide +kernel) (pa_cons (pv 1) pa_nil)) (pe_callB (call_lenLK (K := K)) (by rfl) T.b_len (by decide +kernel) (pa_cons (pv 0) pa_nil)))) (pss_one (ps_raise rfl (takes_of rfl rfl rfl rfl) (pmk_own PySem.F.excBase_ValueError T.xx_OutOfRange T.xg_OutOfRange T.xk_OutOfRange (raises_own T.xb_OutOfRange T.xt_OutOfRange) rfl))) pss_nil))))), ?_⟩
    obtain ⟨KK, EE, hK0, hE, hw⟩ := cW_gen hw
    have S0 := Sep.startG sG
    unfold F_check_square at hw
    obtain ⟨a2, vs3, rfl, h4, d5⟩ := rp_list r_square
    refine ⟨_, rfl, _, _, _, rfl, (SqL.of (S0.bM _ _ h4)), (by rw [d5.len, List.length_map]), rfl, rfl, G, _, rfl, S0.sG, cW_call hw (fun v6 hw => ?_) (fun e he => hE e he _ S0.b0)⟩
    obtain ⟨K8, hK9, hw⟩ := cW_push hw
    refine ⟨_, rfl, _, rfl, ⟨_, (SqL.of (S0.bM _ _ h4))⟩, for_list (K := K) (a := a2) (xs := vs3) (fun i σ H' => ∃ (u10 : Option V) (G' : Hp), σ = [some (V.ref a2), u10] ∧ Same G G' ∧ Sep [] H G G' H' [] ∧ cW (forS (List.drop i (square')) () (fun s x => F_check_square_b1 (square')  x)) K8 EE) ?_ ?_ ?_ ?_⟩
    · exact ⟨_, _, rfl, (Same.refl _), S0, hw⟩
    · intro i σ H11 _ hw
      obtain ⟨u10, G13, rfl, eG14, S12, hw⟩ := hw
      exact (SqL.of (S12.bM _ _ h4))
    · intro i x σ H15 hj hw
      obtain ⟨u10, G17, rfl, eG18, S16, hw⟩ := hw
      obtain ⟨x19, hx, r20⟩ := RpAll.get d5 hj
      obtain ⟨a21, rfl, h22⟩ := rp_ints r20
      have hw := cW_forS hx hw
      have hw : cW (F_check_square_b1 (square')  (x19)) _ EE := hw
      unfold F_check_square_b1 at hw
      obtain ⟨K23, hK24, hw⟩ := cW_name hw
      refine ⟨_, rfl, _, _, rfl, (SqL.of (S16.bM _ _ h22)), _, rfl, _, _, _, rfl, (SqL.of (S16.bM _ _ h4)), (by rw [d5.len, List.length_map]), _, _, rfl, rfl, _, rfl, ?_⟩
      refine iteN (fun c26 => ?_) (fun c26 => ?_)
      · have hw := cW_neg c26 hw
        exact hE 1 (cW_er hw) _ S16.b0
      · have hw := cW_pos c26 hw
        have hw := cW_ok hw
        have hw := hK24 _ hw
        exact ⟨_, _, rfl, eG18, S16, hw⟩
    · intro σ H27 hw
      obtain ⟨u10, G29, rfl, eG30, S28, hw⟩ := hw
      have hw := hK9 _ (cW_forS0 (by rw [d5.len, List.length_map]) hw)
      have hw : cW (F_check_square_r1  ) _ EE := hw
      unfold F_check_square_r1 at hw
      have hw := cW_ok hw
      exact hK0 _ hw _ S28.b0

abbrev N_turn_back : List Str := ["first", "second", "outer", "inner"]
theorem sc_turn_back : FnScope N_turn_back ["first", "second", "outer", "inner"] (defScope s_turn_back) := ⟨rfl, rfl, rfl, by decide +kernel, rfl, by decide +kernel, by decide +kernel⟩
theorem ok_turn_back (D : DefX K mg "turn_back" s_turn_back ["first", "second", "outer", "inner"] pats_turn_back) (T : Txt K mg AD)  : CalX P w K mg base 1 "turn_back" (sp_turn_back K AD) pats_turn_back := by
  refine D.ok sc_turn_back (fun vs H Q E h => ?_) (fun f cdv A_ outer s H vs Q E hr h => ?_)
  · obtain ⟨G, first', second', outer', inner', rfl, _⟩ := h
    rfl
  · obtain ⟨G, first', second', outer', inner', rfl, sG, hw⟩ := h
    refine ⟨_, (pss_cons (ps_aug (i := 1) sc_turn_back.nd rfl (Or.inl rfl) (pe_op op_shr (pe_op op_add (pe_op op_mul (pv 2) (pv 0)) pe_int) pe_int) (pip iop_sub))
      (pss_cons (ps_aug (i := 0) sc_turn_back.nd rfl (Or.inl rfl) (pe_op op_shr (pe_op op_add (pe_op op_mul (pv 3) (pv 1)) pe_int) pe_int) (pip iop_add))
      (pss_cons (ps_aug (i := 1) sc_turn_back.nd rfl (Or.inl rfl) (pe_op op_shr (pe_op op_add (pe_op op_mul (pv 2) (pv 0)) pe_int) pe_int) (pip iop_sub))
      (pss_one (ps_ret (pe_tup (pa_cons (pv 0) (pa_cons (pv 1) pa_nil)))))))), ?_⟩
    obtain ⟨KK, EE, hK0, hE, hw⟩ := cW_gen hw
    have S0 := Sep.startG sG
    unfold F_turn_back at hw
    obtain ⟨g31, hw⟩ := cW_grd hw
    refine ⟨_, rfl, _, rfl, _, rfl, _, _, rfl, rfl, g31, _, _, rfl, rfl, _, _, rfl, rfl, (show (0 : Int) ≤ 5 by decide), _, _, rfl, rfl, ?_⟩
    have hw := cW_bnd hw
    obtain ⟨g33, hw⟩ := cW_grd hw
    refine ⟨_, rfl, _, rfl, _, rfl, _, _, rfl, rfl, g33, _, _, rfl, rfl, _, _, rfl, rfl, (show (0 : Int) ≤ 5 by decide), _, _, rfl, rfl, ?_⟩
    have hw := cW_bnd hw
    obtain ⟨g35, hw⟩ := cW_grd hw
    refine ⟨_, rfl, _, rfl, _, rfl, _, _, rfl, rfl, g35, _, _, rfl, rfl, _, _, rfl, rfl, (show (0 : Int) ≤ 5 by decide), _, _, rfl, rfl, ?_⟩
    have hw := cW_bnd hw
    refine ⟨_, rfl, _, rfl, (by show 2 ≤ sizeLine; decide), fun p37 n38 => ?_⟩
    generalize g39 : upd H p37 _ = H40
    obtain ⟨e41, h42⟩ := gen_new n38 g39
    have h43 : H40 p37 = some (.tup [V.int ((first' + (((inner' * (second' - (((outer' * first') + 16) / 32))) + 16) / 32))), V.int (((second' - (((outer' * first') + 16) / 32)) - (((outer' * (first' + (((inner' * (second' - (((outer' * first') + 16) / 32))) + 16) / 32))) + 16) / 32)))]) := h42
    have fr44 := S0.free n38
    obtain ⟨G46, eG47, hg48, S45⟩ := S0.grow n38 e41 h43 fr44
    have hw := cW_ok hw
    exact hK0 _ hw _ _ _ S45.b0 S45.g0 S45.sG S45.gn (rp_mk2 hg48 (.int _) (.int _))

abbrev N_join_pair : List Str := ["low", "high", "first"]
theorem sc_join_pair : FnScope N_join_pair ["low", "high"] (defScope s_join_pair) := ⟨rfl, rfl, rfl, by decide +kernel, rfl, by decide +kernel, by decide +kernel⟩
theorem ok_join_pair (D : DefX K mg "join_pair" s_join_pair ["low", "high"] pats_join_pair) (T : Txt K mg AD)  : CalX P w K mg base 1 "join_pair" (sp_join_pair K AD) pats_join_pair := by
  refine D.ok sc_join_pair (fun vs H Q E h => ?_) (fun f cdv A_ outer s H vs Q E hr h => ?_)
  · obtain ⟨G, low', high', rfl, _⟩ := h
    rfl
  · obtain ⟨G, low', high', rfl, sG, hw⟩ := h
    refine ⟨_, (pss_cons (ps_set (i := 2) sc_join_pair.nd rfl (Or.inl rfl) (pe_op op_add (pv 0) (pe_op op_shr (pe_op op_add (pv 1) pe_int) pe_int)))
      (pss_one (ps_ret (pe_tup (pa_cons (pv 2) (pa_cons (pe_op op_sub (pv 2) (pv 1)) pa_nil)))))), ?_⟩
    obtain ⟨KK, EE, hK0, hE, hw⟩ := cW_gen hw
    have S0 := Sep.startG sG
    unfold F_join_pair at hw
    refine ⟨_, rfl, _, rfl, _, _, rfl, rfl, _, _, rfl, rfl, (show (0 : Int) ≤ 1 by decide), _, _, rfl, rfl, ?_⟩
    have hw := cW_bnd hw
    refine ⟨_, rfl, _, rfl, _, rfl, _, _, rfl, rfl, (by show 2 ≤ sizeLine; decide), fun p50 n51 => ?_⟩
    generalize g52 : upd H p50 _ = H53
    obtain ⟨e54, h55⟩ := gen_new n51 g52
    have h56 : H53 p50 = some (.tup [V.int ((low' + ((high' + 1) / 2))), V.int (((low' + ((high' + 1) / 2)) - high'))]) := h55
    have fr57 := S0.free n51
    obtain ⟨G59, eG60, hg61, S58⟩ := S0.grow n51 e54 h56 fr57
    have hw := cW_ok hw
    exact hK0 _ hw _ _ _ S58.b0 S58.g0 S58.sG S58.gn (rp_mk2 hg61 (.int _) (.int _))

abbrev N__inverse_four : List Str := ["values", "c0", "c1", "c2", "c3", "h0", "h1", "l0", "l1", "x1", "x2", "x0", "x3"]
theorem sc__inverse_four : FnScope N__inverse_four ["values"] (defScope s__inverse_four) := ⟨rfl, rfl, rfl, by decide +kernel, rfl, by decide +kernel, by decide +kernel⟩
theorem ok__inverse_four (D : DefX K mg "_inverse_four" s__inverse_four ["values"] pats__inverse_four) (T : Txt K mg AD) (c_turn_back : CalX P w K mg base 1 "turn_back" (sp_turn_back K AD) pats_turn_back) (c_join_pair : CalX P w K mg base 1 "join_pair" (sp_join_pair K AD) pats_join_pair) : CalX P w K mg base 2 "_inverse_four" (sp__inverse_four K AD) pats__inverse_four := by
  refine D.ok sc__inverse_four (fun vs H Q E h => ?_) (fun f cdv A_ outer s H vs Q E hr h => ?_)
  · obtain ⟨G, a_values, values', rfl, _⟩ := h
    rfl
  · obtain ⟨G, a_values, values', rfl, sG, q_values, hw⟩ := h
    refine ⟨_, (C8.pss_cut (ps_asg (pv 0) (pg_seqK (K := K) (n := 4) (pgs_cons (pg_name (i := 1) sc__inverse_four.nd rfl (Or.inl rfl)) (pgs_cons (pg_name (i := 2) sc__inverse_four.nd rfl (Or.inl rfl)) (pgs_cons (pg_name (i := 3) sc__inverse_four.nd rfl (Or.inl rfl)) (pgs_cons (pg_name (i := 4) sc__inverse_four.nd rfl (Or.inl rfl)) pgs_nil))))))
      (C8.pss_cut (ps_asg (vx_callX c_turn_back pat_turn_back_0 (.head _) hr (by decide) (takes_of rfl rfl rfl rfl) rfl (pa_cons (pv 2) (pa_cons (pv 4) pa_nil)) (pk_cons pe_int (pk_cons pe_int pk_nil))) (pg_tupK (K := K) (n := 2) (pgs_cons (pg_name (i := 5) sc__inverse_four.nd rfl (Or.inl rfl)) (pgs_cons (pg_name (i := 6) sc__inverse_four.nd rfl (Or.inl rfl)) pgs_nil))))
      (C8.pss_cut (ps_asg (vx_callX c_join_pair pat_join_pair_0 (.head _) hr (by decide) (takes_of rfl rfl rfl rfl) rfl (pa_cons (pv 1) (pa_cons (pv 3) pa_nil)) pk_nil) (pg_tupK (K := K) (n := 2) (pgs_cons (pg_name (i := 7) sc__inverse_four.nd rfl (Or.inl rfl)) (pgs_cons (pg_name (i := 8) sc__inverse_four.nd rfl (Or.inl rfl)) pgs_nil))))
      (C8.pss_cut (ps_asg (vx_callX c_join_pair pat_join_pair_0 (.head _) hr (by decide) (takes_of rfl rfl rfl rfl) rfl (pa_cons (pv 8) (pa_cons (pv 6) pa_nil)) pk_nil) (pg_tupK (K := K) (n := 2) (pgs_cons (pg_name (i := 9) sc__inverse_four.nd rfl (Or.inl rfl)) (pgs_cons (pg_name (i := 10) sc__inverse_four.nd rfl (Or.inl rfl)) pgs_nil))))
      (C8.pss_cut (ps_asg (vx_callX c_join_pair pat_join_pair_0 (.head _) hr (by decide) (takes_of rfl rfl rfl rfl) rfl (pa_cons (pv 7) (pa_cons (pv 5) pa_nil)) pk_nil) (pg_tupK (K := K) (n := 2) (pgs_cons (pg_name (i := 11) sc__inverse_four.nd rfl (Or.inl rfl)) (pgs_cons (pg_name (i := 12) sc__inverse_four.nd rfl (Or.inl rfl)) pgs_nil))))
      (pss_one (ps_ret (pe_lst (pa_cons (pv 11) (pa_cons (pv 9) (pa_cons (pv 10) (pa_cons (pv 12) pa_nil)))))))))))), ?_⟩
    obtain ⟨KK, EE, hK0, hE, hw⟩ := cW_gen hw
    have S0 := Sep.startG sG
    unfold F__inverse_four at hw
    refine ⟨fun σ H' => ∃ (c0_66 : Int) (c1_67 : Int) (c2_68 : Int) (c3_69 : Int) (G' : Hp), σ = [some (V.ref a_values), some (V.int c0_66), some (V.int c1_67), some (V.int c2_68), some (V.int c3_69), none, none, none, none, none, none, none, none] ∧ Same G G' ∧ Sep [] H G G' H' [] ∧ cW (F__inverse_four_k1  c0_66 c1_67 c2_68 c3_69) KK EE, ?_, ?_⟩
    · obtain ⟨K70, hK71, hw⟩ := cW_push hw
      obtain ⟨g72, hw⟩ := cW_grd hw
      refine ⟨_, rfl, _, [V.int ((itD (values') 0)), V.int ((itD (values') 1)), V.int ((itD (values') 2)), V.int ((itD (values') 3))], rfl, (SqL.cast (SqL.of (S0.bM _ _ q_values)) (unp4 g72)), rfl, _, _, rfl, _, _, rfl, _, _, rfl, _, _, rfl, rfl, ?_⟩
      have hw := cW_bnd hw
      have hw := cW_bnd hw
      have hw := cW_bnd hw
      have hw := cW_bnd hw
      have hw := cW_ok hw
      have hw := hK71 _ hw
      exact ⟨((itD (values') 0)), ((itD (values') 1)), ((itD (values') 2)), ((itD (values') 3)), _, rfl, (Same.refl _), S0, hw⟩
    · intro σ H77 hw
      obtain ⟨c0_66, c1_67, c2_68, c3_69, G79, rfl, eG80, S78, hw⟩ := hw
      unfold F__inverse_four_k1 at hw
      refine ⟨fun σ H' => ∃ (h0_85 : Int) (h1_86 : Int) (G' : Hp), σ = [some (V.ref a_values), some (V.int (c0_66)), some (V.int (c1_67)), some (V.int (c2_68)), some (V.int (c3_69)), some (V.int h0_85), some (V.int h1_86), none, none, none, none, none, none] ∧ Same G79 G' ∧ Sep [] H G G' H' [] ∧ cW (F__inverse_four_k2 (c0_66) (c2_68) h0_85 h1_86) KK EE, ?_, ?_⟩
      · obtain ⟨K87, hK88, hw⟩ := cW_push hw
        refine ⟨_, rfl, _, rfl, rfl, rfl, G79, _, _, _, _, rfl, S78.sG, cW_call hw (fun v89 hw v92 H90 G93 e91 eG94 sG95 hn96 r97 => ?_) (fun e he H2 e2 => hE e he H2 (Same.trans S78.b0 e2))⟩
        have S98 := S78.step e91 eG94 sG95 hn96
        obtain ⟨a99, v101, v102, rfl, h100, r103, r104⟩ := rp_tup2 r97
        obtain rfl := rp_int r103
        obtain rfl := rp_int r104
        refine ⟨_, _, rfl, (SqT.of (S98.sG _ _ h100)), rfl, _, _, rfl, _, _, rfl, rfl, ?_⟩
        have hw := cW_ok hw
        have hw := hK88 _ hw
        exact ⟨(v89.1), (v89.2), _, rfl, eG94, S98, hw⟩
      · intro σ H105 hw
        obtain ⟨h0_85, h1_86, G107, rfl, eG108, S106, hw⟩ := hw
        unfold F__inverse_four_k2 at hw
        refine ⟨fun σ H' => ∃ (l0_113 : Int) (l1_114 : Int) (G' : Hp), σ = [some (V.ref a_values), some (V.int (c0_66)), some (V.int (c1_67)), some (V.int (c2_68)), some (V.int (c3_69)), some (V.int (h0_85)), some (V.int (h1_86)), some (V.int l0_113), some (V.int l1_114), none, none, none, none] ∧ Same G107 G' ∧ Sep [] H G G' H' [] ∧ cW (F__inverse_four_k3 (h0_85) (h1_86) l0_113 l1_114) KK EE, ?_, ?_⟩
        · obtain ⟨K115, hK116, hw⟩ := cW_push hw
          refine ⟨_, rfl, _, rfl, rfl, rfl, G107, _, _, rfl, S106.sG, cW_call hw (fun v117 hw v120 H118 G121 e119 eG122 sG123 hn124 r125 => ?_) (fun e he H2 e2 => hE e he H2 (Same.trans S106.b0 e2))⟩
          have S126 := S106.step e119 eG122 sG123 hn124
          obtain ⟨a127, v129, v130, rfl, h128, r131, r132⟩ := rp_tup2 r125
          obtain rfl := rp_int r131
          obtain rfl := rp_int r132
          refine ⟨_, _, rfl, (SqT.of (S126.sG _ _ h128)), rfl, _, _, rfl, _, _, rfl, rfl, ?_⟩
          have hw := cW_ok hw
          have hw := hK116 _ hw
          exact ⟨(v117.1), (v117.2), _, rfl, eG122, S126, hw⟩
        · intro σ H133 hw
          obtain ⟨l0_113, l1_114, G135, rfl, eG136, S134, hw⟩ := hw
          unfold F__inverse_four_k3 at hw
          refine ⟨fun σ H' => ∃ (x1_141 : Int) (x2_142 : Int) (G' : Hp), σ = [some (V.ref a_values), some (V.int (c0_66)), some (V.int (c1_67)), some (V.int (c2_68)), some (V.int (c3_69)), some (V.int (h0_85)), some (V.int (h1_86)), some (V.int (l0_113)), some (V.int (l1_114)), some (V.int x1_141), some (V.int x2_142), none, none] ∧ Same G135 G' ∧ Sep [] H G G' H' [] ∧ cW (F__inverse_four_k4 (h0_85) (l0_113) x1_141 x2_142) KK EE, ?_, ?_⟩
          · obtain ⟨K143, hK144, hw⟩ := cW_push hw
            refine ⟨_, rfl, _, rfl, rfl, rfl, G135, _, _, rfl, S134.sG, cW_call hw (fun v145 hw v148 H146 G149 e147 eG150 sG151 hn152 r153 => ?_) (fun e he H2 e2 => hE e he H2 (Same.trans S134.b0 e2))⟩
            have S154 := S134.step e147 eG150 sG151 hn152
            obtain ⟨a155, v157, v158, rfl, h156, r159, r160⟩ := rp_tup2 r153
            obtain rfl := rp_int r159
            obtain rfl := rp_int r160
            refine ⟨_, _, rfl, (SqT.of (S154.sG _ _ h156)), rfl, _, _, rfl, _, _, rfl, rfl, ?_⟩
            have hw := cW_ok hw
            have hw := hK144 _ hw
            exact ⟨(v145.1), (v145.2), _, rfl, eG150, S154, hw⟩
          · intro σ H161 hw
            obtain ⟨x1_141, x2_142, G163, rfl, eG164, S162, hw⟩ := hw
            unfold F__inverse_four_k4 at hw
            refine ⟨fun σ H' => ∃ (x0_169 : Int) (x3_170 : Int) (G' : Hp), σ = [some (V.ref a_values), some (V.int (c0_66)), some (V.int (c1_67)), some (V.int (c2_68)), some (V.int (c3_69)), some (V.int (h0_85)), some (V.int (h1_86)), some (V.int (l0_113)), some (V.int (l1_114)), some (V.int (x1_141)), some (V.int (x2_142)), some (V.int x0_169), some (V.int x3_170)] ∧ Same G163 G' ∧ Sep [] H G G' H' [] ∧ cW (F__inverse_four_k5 (x1_141) (x2_142) x0_169 x3_170) KK EE, ?_, ?_⟩
            · obtain ⟨K171, hK172, hw⟩ := cW_push hw
              refine ⟨_, rfl, _, rfl, rfl, rfl, G163, _, _, rfl, S162.sG, cW_call hw (fun v173 hw v176 H174 G177 e175 eG178 sG179 hn180 r181 => ?_) (fun e he H2 e2 => hE e he H2 (Same.trans S162.b0 e2))⟩
              have S182 := S162.step e175 eG178 sG179 hn180
              obtain ⟨a183, v185, v186, rfl, h184, r187, r188⟩ := rp_tup2 r181
              obtain rfl := rp_int r187
              obtain rfl := rp_int r188
              refine ⟨_, _, rfl, (SqT.of (S182.sG _ _ h184)), rfl, _, _, rfl, _, _, rfl, rfl, ?_⟩
              have hw := cW_ok hw
              have hw := hK172 _ hw
              exact ⟨(v173.1), (v173.2), _, rfl, eG178, S182, hw⟩
            · intro σ H189 hw
              obtain ⟨x0_169, x3_170, G191, rfl, eG192, S190, hw⟩ := hw
              unfold F__inverse_four_k5 at hw
              refine ⟨_, rfl, _, rfl, _, rfl, _, rfl, (by show 4 ≤ sizeLine; decide), fun p193 n194 => ?_⟩
              generalize g195 : upd H189 p193 _ = H196
              obtain ⟨e197, h198⟩ := gen_new n194 g195
              have h199 : H196 p193 = some (.lst (([x0_169, x1_141, x2_142, x3_170] : (List Int)).map V.int)) := h198
              have fr200 := S190.free n194
              have S201 := S190.new n194 e197 h199 fr200
              have hw := cW_ok hw
              exact hK0 _ hw _ _ fr200 S201.b0 h199

abbrev N__inverse_eight : List Str := ["values", "e0", "f0", "e1", "f2", "e2", "f1", "e3", "f3", "d2", "d3", "d0", "d1", "h1", "h2", "h0", "h3", "lows", "pairs", "low", "high", "first", "_", "second"]
theorem sc__inverse_eight : FnScope N__inverse_eight ["values"] (defScope s__inverse_eight) := ⟨rfl, rfl, rfl, by decide +kernel, rfl, by decide +kernel, by decide +kernel⟩
theorem ok__inverse_eight (D : DefX K mg "_inverse_eight" s__inverse_eight ["values"] pats__inverse_eight) (T : Txt K mg AD) (c_join_pair : CalX P w K mg base 1 "join_pair" (sp_join_pair K AD) pats_join_pair) (c_turn_back : CalX P w K mg base 1 "turn_back" (sp_turn_back K AD) pats_turn_back) (c__inverse_four : CalX P w K mg base 2 "_inverse_four" (sp__inverse_four K AD) pats__inverse_four) : CalX P w K mg base 3 "_inverse_eight" (sp__inverse_eight K AD) pats__inverse_eight := by
  refine D.ok sc__inverse_eight (fun vs H Q E h => ?_) (fun f cdv A_ outer s H vs Q E hr h => ?_)
  · obtain ⟨G, a_values, values', rfl, _⟩ := h
    rfl
  · obtain ⟨G, a_values, values', rfl, sG, q_values, hw⟩ := h
    refine ⟨_, (C8.pss_cut (ps_asg (pv 0) (pg_seqK (K := K) (n := 8) (pgs_cons (pg_name (i := 1) sc__inverse_eight.nd rfl (Or.inl rfl)) (pgs_cons (pg_name (i := 2) sc__inverse_eight.nd rfl (Or.inl rfl)) (pgs_cons (pg_name (i := 3) sc__inverse_eight.nd rfl (Or.inl rfl)) (pgs_cons (pg_name (i := 4) sc__inverse_eight.nd rfl (Or.inl rfl)) (pgs_cons (pg_name (i := 5) sc__inverse_eight.nd rfl (Or.inl rfl)) (pgs_cons (pg_name (i := 6) sc__inverse_eight.nd rfl (Or.inl rfl)) (pgs_cons (pg_name (i := 7) sc__inverse_eight.nd rfl (Or.inl rfl)) (pgs_cons (pg_name (i := 8) sc__inverse_eight.nd rfl (Or.inl rfl)) pgs_nil))))))))))
      (C8.pss_cut (ps_asg (vx_callX c_join_pair pat_join_pair_0 (.head _) hr (by decide) (takes_of rfl rfl rfl rfl) rfl (pa_cons (pv 4) (pa_cons (pv 8) pa_nil)) pk_nil) (pg_tupK (K := K) (n := 2) (pgs_cons (pg_name (i := 9) sc__inverse_eight.nd rfl (Or.inl rfl)) (pgs_cons (pg_name (i := 10) sc__inverse_eight.nd rfl (Or.inl rfl)) pgs_nil))))
      (C8.pss_cut (ps_asg (vx_callX c_join_pair pat_join_pair_0 (.head _) hr (by decide) (takes_of rfl rfl rfl rfl) rfl (pa_cons (pv 2) (pa_cons (pv 6) pa_nil)) pk_nil) (pg_tupK (K := K) (n := 2) (pgs_cons (pg_name (i := 11) sc__inverse_eight.nd rfl (Or.inl rfl)) (pgs_cons (pg_name (i := 12) sc__inverse_eight.nd rfl (Or.inl rfl)) pgs_nil))))
      (C8.pss_cut (ps_asg (vx_callX c_turn_back pat_turn_back_0 (.head _) hr (by decide) (takes_of rfl rfl rfl rfl) rfl (pa_cons (pv 12) (pa_cons (pv 9) pa_nil)) (pk_cons pe_int (pk_cons pe_int pk_nil))) (pg_tupK (K := K) (n := 2) (pgs_cons (pg_name (i := 13) sc__inverse_eight.nd rfl (Or.inl rfl)) (pgs_cons (pg_name (i := 14) sc__inverse_eight.nd rfl (Or.inl rfl)) pgs_nil))))
      (C8.pss_cut (ps_asg (vx_callX c_turn_back pat_turn_back_0 (.head _) hr (by decide) (takes_of rfl rfl rfl rfl) rfl (pa_cons (pv 11) (pa_cons (pv 10) pa_nil)) (pk_cons pe_int (pk_cons pe_int pk_nil))) (pg_tupK (K := K) (n := 2) (pgs_cons (pg_name (i := 15) sc__inverse_eight.nd rfl (Or.inl rfl)) (pgs_cons (pg_name (i := 16) sc__inverse_eight.nd rfl (Or.inl rfl)) pgs_nil))))
      (C8.pss_cut (ps_set (i := 17) sc__inverse_eight.nd rfl (Or.inl rfl) (vx_callX c__inverse_four pat__inverse_four_0 (.head _) hr (by decide) (takes_of rfl rfl rfl rfl) rfl (pa_cons (pe_lst (pa_cons (pv 1) (pa_cons (pv 3) (pa_cons (pv 5) (pa_cons (pv 7) pa_nil))))) pa_nil) pk_nil))
      (C8.pss_cut (ps_setLc (i := 18) (y := "pairs") rfl sc__inverse_eight.nd rfl rfl (sw_true rfl rfl rfl (by decide +kernel)) (own := [("low", 19), ("high", 20)]) (g := gTup K 2 (gCons (gName 19) (gCons (gName 20) gNil))) (pi_zipK (K := K) rfl T.b_zip (pa_cons (pv 17) (pa_cons (pe_lst (pa_cons (pv 15) (pa_cons (pv 13) (pa_cons (pv 14) (pa_cons (pv 16) pa_nil))))) pa_nil))) (blkOk_by (own := [("low", 19), ("high", 20)]) (N := N__inverse_eight) (sc := defScope s__inverse_eight) (by decide +kernel)) (fun _ _ _ _ _ => (pg_tupK (K := K) (n := 2) (pgs_cons (pg_name (i := 19) sc__inverse_eight.nd rfl (Or.inl rfl)) (pgs_cons (pg_name (i := 20) sc__inverse_eight.nd rfl (Or.inl rfl)) pgs_nil)))) (fun _ _ _ _ _ => pts_nil) (fun _ _ _ _ _ => (vx_callX c_join_pair pat_join_pair_0 (.head _) hr (by decide) takes0 rfl (pa_cons (pv 19) (pa_cons (pv 20) pa_nil)) pk_nil)))
      (pss_one (ps_ret (pe_op op_cat (pe_lc (own := [("first", 21), ("_", 22)]) (g := gTup K 2 (gCons (gName 21) (gCons (gName 22) gNil))) (by rfl) sc__inverse_eight.nd (pi_listK (K := K) (pv 18)) (blkOk_by (own := [("first", 21), ("_", 22)]) (N := N__inverse_eight) (sc := defScope s__inverse_eight) (by decide +kernel)) (fun _ _ _ _ _ => (pg_tupK (K := K) (n := 2) (pgs_cons (pg_name (i := 21) sc__inverse_eight.nd rfl (Or.inl rfl)) (pgs_cons (pg_name (i := 22) sc__inverse_eight.nd rfl (Or.inl rfl)) pgs_nil)))) (fun _ _ _ _ _ => pts_nil) (fun _ _ _ _ _ => (pv 21))) (pe_lc (own := [("_", 22), ("second", 23)]) (g := gTup K 2 (gCons (gName 22) (gCons (gName 23) gNil))) (by rfl) sc__inverse_eight.nd (pi_listK (K := K) (pe_revLK (K := K) (pv 18))) (blkOk_by (own := [("_", 22), ("second", 23)]) (N := N__inverse_eight) (sc := defScope s__inverse_eight) (by decide +kernel)) (fun _ _ _ _ _ => (pg_tupK (K := K) (n := 2) (pgs_cons (pg_name (i := 22) sc__inverse_eight.nd rfl (Or.inl rfl)) (pgs_cons (pg_name (i := 23) sc__inverse_eight.nd rfl (Or.inl rfl)) pgs_nil)))) (fun _ _ _ _ _ => pts_nil) (fun _ _ _ _ _ => (pv 23))))))))))))), ?_⟩
    obtain ⟨KK, EE, hK0, hE, hw⟩ := cW_gen hw
    have S0 := Sep.startG sG
    unfold F__inverse_eight at hw
    refine ⟨fun σ H' => ∃ (e0_210 : Int) (f0_211 : Int) (e1_212 : Int) (f2_213 : Int) (e2_214 : Int) (f1_215 : Int) (e3_216 : Int) (f3_217 : Int) (G' : Hp), σ = [some (V.ref a_values), some (V.int e0_210), some (V.int f0_211), some (V.int e1_212), some (V.int f2_213), some (V.int e2_214), some (V.int f1_215), some (V.int e3_216), some (V.int f3_217), none, none, none, none, none, none, none, none, none, none, none, none, none, none, none] ∧ Same G G' ∧ Sep [] H G G' H' [] ∧ cW (F__inverse_eight_k1  e0_210 f0_211 e1_212 f2_213 e2_214 f1_215 e3_216 f3_217) KK EE, ?_, ?_⟩
    · obtain ⟨K218, hK219, hw⟩ := cW_push hw
      obtain ⟨g220, hw⟩ := cW_grd hw
      refine ⟨_, rfl, _, [V.int ((itD (values') 0)), V.int ((itD (values') 1)), V.int ((itD (values') 2)), V.int ((itD (values') 3)), V.int ((itD (values') 4)), V.int ((itD (values') 5)), V.int ((itD (values') 6)), V.int ((itD (values') 7))], rfl, (SqL.cast (SqL.of (S0.bM _ _ q_values)) (unp8 g220)), rfl, _, _, rfl, _, _, rfl, _, _, rfl, _, _, rfl, _, _, rfl, _, _, rfl, _, _, rfl, _, _, rfl, rfl, ?_⟩
      have hw := cW_bnd hw
      have hw := cW_bnd hw
      have hw := cW_bnd hw
      have hw := cW_bnd hw
      have hw := cW_bnd hw
      have hw := cW_bnd hw
      have hw := cW_bnd hw
      have hw := cW_bnd hw
      have hw := cW_ok hw
      have hw := hK219 _ hw
      exact ⟨((itD (values') 0)), ((itD (values') 1)), ((itD (values') 2)), ((itD (values') 3)), ((itD (values') 4)), ((itD (values') 5)), ((itD (values') 6)), ((itD (values') 7)), _, rfl, (Same.refl _), S0, hw⟩
    · intro σ H229 hw
      obtain ⟨e0_210, f0_211, e1_212, f2_213, e2_214, f1_215, e3_216, f3_217, G231, rfl, eG232, S230, hw⟩ := hw
      unfold F__inverse_eight_k1 at hw
      refine ⟨fun σ H' => ∃ (d2_241 : Int) (d3_242 : Int) (G' : Hp), σ = [some (V.ref a_values), some (V.int (e0_210)), some (V.int (f0_211)), some (V.int (e1_212)), some (V.int (f2_213)), some (V.int (e2_214)), some (V.int (f1_215)), some (V.int (e3_216)), some (V.int (f3_217)), some (V.int d2_241), some (V.int d3_242), none, none, none, none, none, none, none, none, none, none, none, none, none] ∧ Same G231 G' ∧ Sep [] H G G' H' [] ∧ cW (F__inverse_eight_k2 (e0_210) (f0_211) (e1_212) (e2_214) (f1_215) (e3_216) d2_241 d3_242) KK EE, ?_, ?_⟩
      · obtain ⟨K243, hK244, hw⟩ := cW_push hw
        refine ⟨_, rfl, _, rfl, rfl, rfl, G231, _, _, rfl, S230.sG, cW_call hw (fun v245 hw v248 H246 G249 e247 eG250 sG251 hn252 r253 => ?_) (fun e he H2 e2 => hE e he H2 (Same.trans S230.b0 e2))⟩
        have S254 := S230.step e247 eG250 sG251 hn252
        obtain ⟨a255, v257, v258, rfl, h256, r259, r260⟩ := rp_tup2 r253
        obtain rfl := rp_int r259
        obtain rfl := rp_int r260
        refine ⟨_, _, rfl, (SqT.of (S254.sG _ _ h256)), rfl, _, _, rfl, _, _, rfl, rfl, ?_⟩
        have hw := cW_ok hw
        have hw := hK244 _ hw
        exact ⟨(v245.1), (v245.2), _, rfl, eG250, S254, hw⟩
      · intro σ H261 hw
        obtain ⟨d2_241, d3_242, G263, rfl, eG264, S262, hw⟩ := hw
        unfold F__inverse_eight_k2 at hw
        refine ⟨fun σ H' => ∃ (d0_273 : Int) (d1_274 : Int) (G' : Hp), σ = [some (V.ref a_values), some (V.int (e0_210)), some (V.int (f0_211)), some (V.int (e1_212)), some (V.int (f2_213)), some (V.int (e2_214)), some (V.int (f1_215)), some (V.int (e3_216)), some (V.int (f3_217)), some (V.int (d2_241)), some (V.int (d3_242)), some (V.int d0_273), some (V.int d1_274), none, none, none, none, none, none, none, none, none, none, none] ∧ Same G263 G' ∧ Sep [] H G G' H' [] ∧ cW (F__inverse_eight_k3 (e0_210) (e1_212) (e2_214) (e3_216) (d2_241) (d3_242) d0_273 d1_274) KK EE, ?_, ?_⟩
        · obtain ⟨K275, hK276, hw⟩ := cW_push hw
          refine ⟨_, rfl, _, rfl, rfl, rfl, G263, _, _, rfl, S262.sG, cW_call hw (fun v277 hw v280 H278 G281 e279 eG282 sG283 hn284 r285 => ?_) (fun e he H2 e2 => hE e he H2 (Same.trans S262.b0 e2))⟩
          have S286 := S262.step e279 eG282 sG283 hn284
          obtain ⟨a287, v289, v290, rfl, h288, r291, r292⟩ := rp_tup2 r285
          obtain rfl := rp_int r291
          obtain rfl := rp_int r292
          refine ⟨_, _, rfl, (SqT.of (S286.sG _ _ h288)), rfl, _, _, rfl, _, _, rfl, rfl, ?_⟩
          have hw := cW_ok hw
          have hw := hK276 _ hw
          exact ⟨(v277.1), (v277.2), _, rfl, eG282, S286, hw⟩
        · intro σ H293 hw
          obtain ⟨d0_273, d1_274, G295, rfl, eG296, S294, hw⟩ := hw
          unfold F__inverse_eight_k3 at hw
          refine ⟨fun σ H' => ∃ (h1_305 : Int) (h2_306 : Int) (G' : Hp), σ = [some (V.ref a_values), some (V.int (e0_210)), some (V.int (f0_211)), some (V.int (e1_212)), some (V.int (f2_213)), some (V.int (e2_214)), some (V.int (f1_215)), some (V.int (e3_216)), some (V.int (f3_217)), some (V.int (d2_241)), some (V.int (d3_242)), some (V.int (d0_273)), some (V.int (d1_274)), some (V.int h1_305), some (V.int h2_306), none, none, none, none, none, none, none, none, none] ∧ Same G295 G' ∧ Sep [] H G G' H' [] ∧ cW (F__inverse_eight_k4 (e0_210) (e1_212) (e2_214) (e3_216) (d3_242) (d0_273) h1_305 h2_306) KK EE, ?_, ?_⟩
          · obtain ⟨K307, hK308, hw⟩ := cW_push hw
            refine ⟨_, rfl, _, rfl, rfl, rfl, G295, _, _, _, _, rfl, S294.sG, cW_call hw (fun v309 hw v312 H310 G313 e311 eG314 sG315 hn316 r317 => ?_) (fun e he H2 e2 => hE e he H2 (Same.trans S294.b0 e2))⟩
            have S318 := S294.step e311 eG314 sG315 hn316
            obtain ⟨a319, v321, v322, rfl, h320, r323, r324⟩ := rp_tup2 r317
            obtain rfl := rp_int r323
            obtain rfl := rp_int r324
            refine ⟨_, _, rfl, (SqT.of (S318.sG _ _ h320)), rfl, _, _, rfl, _, _, rfl, rfl, ?_⟩
            have hw := cW_ok hw
            have hw := hK308 _ hw
            exact ⟨(v309.1), (v309.2), _, rfl, eG314, S318, hw⟩
          · intro σ H325 hw
            obtain ⟨h1_305, h2_306, G327, rfl, eG328, S326, hw⟩ := hw
            unfold F__inverse_eight_k4 at hw
            refine ⟨fun σ H' => ∃ (h0_337 : Int) (h3_338 : Int) (G' : Hp), σ = [some (V.ref a_values), some (V.int (e0_210)), some (V.int (f0_211)), some (V.int (e1_212)), some (V.int (f2_213)), some (V.int (e2_214)), some (V.int (f1_215)), some (V.int (e3_216)), some (V.int (f3_217)), some (V.int (d2_241)), some (V.int (d3_242)), some (V.int (d0_273)), some (V.int (d1_274)), some (V.int (h1_305)), some (V.int (h2_306)), some (V.int h0_337), some (V.int h3_338), none, none, none, none, none, none, none] ∧ Same G327 G' ∧ Sep [] H G G' H' [] ∧ cW (F__inverse_eight_k5 (e0_210) (e1_212) (e2_214) (e3_216) (h1_305) (h2_306) h0_337 h3_338) KK EE, ?_, ?_⟩
            · obtain ⟨K339, hK340, hw⟩ := cW_push hw
              refine ⟨_, rfl, _, rfl, rfl, rfl, G327, _, _, _, _, rfl, S326.sG, cW_call hw (fun v341 hw v344 H342 G345 e343 eG346 sG347 hn348 r349 => ?_) (fun e he H2 e2 => hE e he H2 (Same.trans S326.b0 e2))⟩
              have S350 := S326.step e343 eG346 sG347 hn348
              obtain ⟨a351, v353, v354, rfl, h352, r355, r356⟩ := rp_tup2 r349
              obtain rfl := rp_int r355
              obtain rfl := rp_int r356
              refine ⟨_, _, rfl, (SqT.of (S350.sG _ _ h352)), rfl, _, _, rfl, _, _, rfl, rfl, ?_⟩
              have hw := cW_ok hw
              have hw := hK340 _ hw
              exact ⟨(v341.1), (v341.2), _, rfl, eG346, S350, hw⟩
            · intro σ H357 hw
              obtain ⟨h0_337, h3_338, G359, rfl, eG360, S358, hw⟩ := hw
              unfold F__inverse_eight_k5 at hw
              refine ⟨fun σ H' => ∃ (p367 : Addr) (lows_366 : (List Int)) (G' : Hp), σ = [some (V.ref a_values), some (V.int (e0_210)), some (V.int (f0_211)), some (V.int (e1_212)), some (V.int (f2_213)), some (V.int (e2_214)), some (V.int (f1_215)), some (V.int (e3_216)), some (V.int (f3_217)), some (V.int (d2_241)), some (V.int (d3_242)), some (V.int (d0_273)), some (V.int (d1_274)), some (V.int (h1_305)), some (V.int (h2_306)), some (V.int (h0_337)), some (V.int (h3_338)), some (V.ref p367), none, none, none, none, none, none] ∧ Same G359 G' ∧ Sep [] H G G' H' [p367] ∧ H' p367 = some (.lst ((lows_366 : (List Int)).map V.int)) ∧ H p367 = none ∧ cW (F__inverse_eight_k6 (h1_305) (h2_306) (h0_337) (h3_338) lows_366) KK EE, ?_, ?_⟩
              · obtain ⟨K368, hK369, hw⟩ := cW_push hw
                refine ⟨_, rfl, _, rfl, _, rfl, _, rfl, (by show 4 ≤ sizeLine; decide), fun p370 n371 => ?_⟩
                generalize g372 : upd H357 p370 _ = H373
                obtain ⟨e374, h375⟩ := gen_new n371 g372
                have h376 : H373 p370 = some (.lst (([e0_210, e1_212, e2_214, e3_216] : (List Int)).map V.int)) := h375
                have fr377 := S358.free n371
                have S378 := S358.new n371 e374 h376 fr377
                refine ⟨rfl, rfl, G359, _, _, rfl, S378.sG, (hide_nil h376), cW_call hw (fun v379 hw p382 H380 n383 e381 h384 => ?_) (fun e he H2 e2 => hE e he H2 (Same.trans S378.b0 e2))⟩
                have h385 : H380 p382 = some (.lst ((v379 : (List Int)).map V.int)) := h384
                have fr386 := S378.free n383
                have S387 := S378.new n383 e381 h385 fr386
                have hw := cW_ok hw
                have hw := hK369 _ hw
                exact ⟨_, (v379), _, rfl, (Same.refl _), (S387.sub (all_cons (.head _) all_nil)), h385, fr386, hw⟩
              · intro σ H388 hw
                obtain ⟨p367, lows_366, G392, rfl, eG393, S389, h390, fr391, hw⟩ := hw
                unfold F__inverse_eight_k6 at hw
                refine ⟨fun σ H' => ∃ (pairs_395 : (List (Int × Int))) (u396 : V) (G' : Hp), σ = [some (V.ref a_values), some (V.int (e0_210)), some (V.int (f0_211)), some (V.int (e1_212)), some (V.int (f2_213)), some (V.int (e2_214)), some (V.int (f1_215)), some (V.int (e3_216)), some (V.int (f3_217)), some (V.int (d2_241)), some (V.int (d3_242)), some (V.int (d0_273)), some (V.int (d1_274)), some (V.int (h1_305)), some (V.int (h2_306)), some (V.int (h0_337)), some (V.int (h3_338)), some (V.ref p367), some u396, none, none, none, none, none] ∧ Same G392 G' ∧ Sep [] H G G' H' [p367] ∧ H' p367 = some (.lst ((lows_366 : (List Int)).map V.int)) ∧ Rp G' u396 ((encL (encT2 PyData.int PyData.int)) pairs_395) ∧ cW (F__inverse_eight_k7  pairs_395) KK EE, ?_, ?_⟩
                · obtain ⟨K397, hK398, hw⟩ := cW_push hw
                  refine ⟨_, rfl, _, rfl, _, rfl, _, rfl, _, rfl, (by show 4 ≤ sizeLine; decide), fun p399 n400 => ?_⟩
                  generalize g401 : upd H388 p399 _ = H402
                  obtain ⟨e403, h404⟩ := gen_new n400 g401
                  have h405 : H402 p399 = some (.lst (([h0_337, h1_305, h2_306, h3_338] : (List Int)).map V.int)) := h404
                  have fr406 := S389.free n400
                  have S407 := S389.new n400 e403 h405 fr406
                  have h408 := (e403 _ _ h390)
                  obtain ⟨K410, hK411, hw⟩ := cW_push hw
                  refine ⟨_, _, _, _, rfl, .inl ⟨(SqL.of h408), (SqL.of h405), fun D412 n413 => lc_zipM (K := K) (a := p367) (b := p399) (xs := (lows_366 : (List Int)).map V.int) (ys := ([h0_337, h1_305, h2_306, h3_338] : (List Int)).map V.int) (min ((lows_366 : (List Int)).length) (([h0_337, h1_305, h2_306, h3_338] : (List Int)).length)) (zipM_n (by rw [List.length_map]) (by rw [List.length_map])) (fun i H' => ∃ (G' : Hp) (acc415 : (List (Int × Int))) (vs416 : List V), Same G392 G' ∧ Sep [] H G G' H' [D412, p367, p399] ∧ H' p367 = some (.lst ((lows_366 : (List Int)).map V.int)) ∧ H' p399 = some (.lst (([h0_337, h1_305, h2_306, h3_338] : (List Int)).map V.int)) ∧ H' D412 = some (.lst vs416) ∧ RpAll G' vs416 ((acc415 : (List (Int × Int))).map (encT2 PyData.int PyData.int)) ∧ Same H402 H' ∧ cW (mapA (List.drop i (List.zip (lows_366) ([h0_337, h1_305, h2_306, h3_338]))) acc415 (fun x => noEr (F__inverse_eight_c8  x))) K410 EE) ?_ ?_ ?_ ?_⟩⟩
                  · generalize g417 : upd H402 D412 _ = H418
                    obtain ⟨e419, h420⟩ := gen_new n413 g417
                    have fr421 := S407.free n413
                    have S422 := S407.new n413 e419 h420 fr421
                    have h423 := (e419 _ _ h408)
                    have h424 := (e419 _ _ h405)
                    exact ⟨_, [], [], Same.refl _, (S422.sub (all_cons (.head _) (all_cons (.tail _ (.tail _ (.head _))) (all_cons (.tail _ (.head _)) all_nil)))), h423, h424, h420, RpAll.nil, e419, hw⟩
                  · intro i H425 _ hw
                    obtain ⟨G428, acc430, vs431, eG429, S426, h437, h438, h427, d432, eo436, hw⟩ := hw
                    exact ⟨(SqL.of h437), (SqL.of h438)⟩
                  · intro i x y T441 H439 hj hj2 n440 hw
                    obtain ⟨G444, acc446, vs447, eG445, S442, h453, h454, h443, d448, eo452, hw⟩ := hw
                    obtain ⟨x455, hx456, rfl⟩ := map_get hj
                    obtain ⟨x457, hx458, rfl⟩ := map_get hj2
                    generalize g459 : upd H439 T441 _ = H460
                    obtain ⟨e461, h462⟩ := gen_new n440 g459
                    have h463 : H460 T441 = some (.tup [V.int (x455), V.int (x457)]) := h462
                    have fr464 := S442.free n440
                    obtain ⟨G466, eG467, hg468, S465⟩ := S442.grow n440 e461 h463 fr464
                    obtain ⟨z469, hw⟩ := cW_mapA (zip_get hx456 hx458) hw
                    have hw := cW_noEr hw
                    have hw : cW (F__inverse_eight_c8  ((x455, x457))) _ (fun _ => False) := hw
                    unfold F__inverse_eight_c8 at hw
                    refine ⟨_, _, rfl, (SqT.of (S465.sG _ _ hg468)), rfl, _, _, rfl, _, _, rfl, rfl, rfl, ?_⟩
                    refine tyes_go ?_
                    refine ⟨_, rfl, _, rfl, rfl, rfl, G466, _, _, rfl, S465.sG, cW_call hw (fun v471 hw v474 H472 G475 e473 eG476 sG477 hn478 r479 => ?_) (fun e he => he.elim)⟩
                    have S480 := S465.step e473 eG476 sG477 hn478
                    obtain ⟨a481, v483, v484, rfl, h482, r485, r486⟩ := rp_tup2 r479
                    obtain rfl := rp_int r485
                    obtain rfl := rp_int r486
                    have h487 := (e473 _ _ (e461 _ _ h443))
                    refine ⟨_, h487, (app_len (RpAll.mono eG476 (RpAll.mono eG467 d448)) z469), ?_⟩
                    generalize g488 : upd H472 D412 _ = H489
                    obtain ⟨x490, h491⟩ := gen_mut g488
                    have S492 := S480.mut1 x490 (.head _) h491
                    have hw := cW_ok hw
                    have h493 := (x490 _ _ (e473 _ _ (e461 _ _ h453)) (ne_of_none h408 n413))
                    have h494 := (x490 _ _ (e473 _ _ (e461 _ _ h454)) (ne_of_none h405 n413))
                    exact ⟨_, (acc446 ++ [v471]), _, (Same.trans (Same.trans eG445 eG467) eG476), S492, h493, h494, h491, (app_map (RpAll.mono eG476 (RpAll.mono eG467 d448)) (RpAll.one (rp_mk2 h482 (.int _) (.int _)))), (same_mut (Same.trans (Same.trans eo452 e461) e473) x490 n413), hw⟩
                  intro H495 hw
                  obtain ⟨G498, acc500, vs501, eG499, S496, h507, h508, h497, d502, eo506, hw⟩ := hw
                  have hw := hK411 _ (cW_mapA0 zipM_len hw)
                  have fr509 := S407.free n413
                  have hw := cW_ok hw
                  have hw := hK398 _ hw
                  obtain ⟨G510, eG511, hg512, S513⟩ := Sep.freeze (O' := [p367, p399]) S496 (.head _) h497 fr509 ((all_cons ⟨(.tail _ (.head _)), (ne_of_none h408 n413)⟩ (all_cons ⟨(.tail _ (.tail _ (.head _))), (ne_of_none h405 n413)⟩ all_nil)))
                  exact ⟨(acc500), _, _, rfl, (Same.trans eG499 eG511), (S513.sub (all_cons (.head _) all_nil)), h507, (rp_mk_list hg512 (RpAll.mono eG511 d502)), hw⟩
                · intro σ H514 hw
                  obtain ⟨pairs_395, u396, G518, rfl, eG519, S515, h516, r517, hw⟩ := hw
                  obtain ⟨a520, vs521, rfl, h522, d523⟩ := rp_list r517
                  unfold F__inverse_eight_k7 at hw
                  obtain ⟨K525, hK526, hw⟩ := cW_push hw
                  refine ⟨_, rfl, _, rfl, ⟨_, (SqL.of (S515.sG _ _ h522))⟩, fun D527 n528 => lc_list (K := K) (a := a520) (xs := vs521) (fun i H' => ∃ (G' : Hp) (acc530 : (List Int)), Same G518 G' ∧ Sep [] H G G' H' [D527, p367] ∧ H' p367 = some (.lst ((lows_366 : (List Int)).map V.int)) ∧ H' D527 = some (.lst ((acc530 : (List Int)).map V.int)) ∧ Same H514 H' ∧ cW (mapA (List.drop i (pairs_395)) acc530 (fun x => noEr (F__inverse_eight_c9  x))) K525 EE) ?_ ?_ ?_ ?_⟩
                  · generalize g532 : upd H514 D527 _ = H533
                    obtain ⟨e534, h535⟩ := gen_new n528 g532
                    have fr536 := S515.free n528
                    have S537 := S515.new n528 e534 h535 fr536
                    have h538 := (e534 _ _ h516)
                    exact ⟨_, [], Same.refl _, S537, h538, h535, e534, hw⟩
                  · intro i H539 _ hw
                    obtain ⟨G542, acc544, eG543, S540, h551, h541, eo550, hw⟩ := hw
                    exact (SqL.of (S540.sG _ _ (eG543 _ _ h522)))
                  · intro i x H552 hj hw
                    obtain ⟨G555, acc557, eG556, S553, h564, h554, eo563, hw⟩ := hw
                    obtain ⟨x565, hx, r566⟩ := RpAll.get (RpAll.mono eG556 d523) hj
                    obtain ⟨a567, v569, v570, rfl, h568, r571, r572⟩ := rp_tup2 r566
                    obtain rfl := rp_int r571
                    obtain rfl := rp_int r572
                    obtain ⟨z573, hw⟩ := cW_mapA hx hw
                    have hw := cW_noEr hw
                    have hw : cW (F__inverse_eight_c9  (x565)) _ (fun _ => False) := hw
                    unfold F__inverse_eight_c9 at hw
                    refine ⟨_, _, rfl, (SqT.of (S553.sG _ _ h568)), rfl, _, _, rfl, _, _, rfl, rfl, rfl, ?_⟩
                    refine tyes_go ?_
                    refine ⟨_, rfl, _, h554, (app_lenM z573), ?_⟩
                    generalize g575 : upd H552 D527 _ = H576
                    obtain ⟨x577, h578⟩ := gen_mut g575
                    have S579 := S553.mut1 x577 (.head _) h578
                    have hw := cW_ok hw
                    have h580 := (x577 _ _ h564 (ne_of_none h516 n528))
                    exact ⟨_, (acc557 ++ [x565.1]), eG556, S579, h580, (snoc_map h578), (same_mut eo563 x577 n528), hw⟩
                  intro H581 hw
                  obtain ⟨G584, acc586, eG585, S582, h593, h583, eo592, hw⟩ := hw
                  have hw := hK526 _ (cW_mapA0 (by rw [(RpAll.mono eG585 d523).len, List.length_map]) hw)
                  have fr594 := S515.free n528
                  refine ⟨_, rfl, _, _, rfl, (SqL.of (S582.sG _ _ (eG585 _ _ h522))), fun p595 n596 => ?_⟩
                  generalize g597 : upd H581 p595 _ = H598
                  obtain ⟨e599, h600⟩ := gen_new n596 g597
                  have h601 : H598 p595 = some (.lst ((vs521).reverse)) := h600
                  have fr602 := S582.free n596
                  have S603 := S582.new n596 e599 h601 fr602
                  have d604 : RpAll G584 ((vs521).reverse) (((pairs_395).reverse : (List (Int × Int))).map (encT2 PyData.int PyData.int)) := rev_all (RpAll.mono eG585 d523)
                  obtain ⟨K606, hK607, hw⟩ := cW_push hw
                  refine ⟨_, rfl, ⟨_, (SqL.of h601)⟩, fun D608 n609 => lc_list (K := K) (a := p595) (xs := (vs521).reverse) (fun i H' => ∃ (G' : Hp) (acc611 : (List Int)), Same G584 G' ∧ Sep [] H G G' H' [D608, p367, p595, D527] ∧ H' p367 = some (.lst ((lows_366 : (List Int)).map V.int)) ∧ H' p595 = some (.lst ((vs521).reverse)) ∧ H' D527 = some (.lst ((acc586 : (List Int)).map V.int)) ∧ H' D608 = some (.lst ((acc611 : (List Int)).map V.int)) ∧ Same H598 H' ∧ cW (mapA (List.drop i ((pairs_395).reverse)) acc611 (fun x => noEr (F__inverse_eight_c10  x))) K606 EE) ?_ ?_ ?_ ?_⟩
                  · generalize g613 : upd H598 D608 _ = H614
                    obtain ⟨e615, h616⟩ := gen_new n609 g613
                    have fr617 := S603.free n609
                    have S618 := S603.new n609 e615 h616 fr617
                    have h619 := (e615 _ _ (e599 _ _ h593))
                    have h620 := (e615 _ _ h601)
                    have h621 := (e615 _ _ (e599 _ _ h583))
                    exact ⟨_, [], Same.refl _, (S618.sub (all_cons (.head _) (all_cons (.tail _ (.tail _ (.tail _ (.head _)))) (all_cons (.tail _ (.head _)) (all_cons (.tail _ (.tail _ (.head _))) all_nil))))), h619, h620, h621, h616, e615, hw⟩
                  · intro i H622 _ hw
                    obtain ⟨G625, acc627, eG626, S623, h634, h635, h636, h624, eo633, hw⟩ := hw
                    exact (SqL.of h635)
                  · intro i x H637 hj hw
                    obtain ⟨G640, acc642, eG641, S638, h649, h650, h651, h639, eo648, hw⟩ := hw
                    obtain ⟨x652, hx, r653⟩ := RpAll.get (RpAll.mono eG641 d604) hj
                    obtain ⟨a654, v656, v657, rfl, h655, r658, r659⟩ := rp_tup2 r653
                    obtain rfl := rp_int r658
                    obtain rfl := rp_int r659
                    obtain ⟨z660, hw⟩ := cW_mapA hx hw
                    have hw := cW_noEr hw
                    have hw : cW (F__inverse_eight_c10  (x652)) _ (fun _ => False) := hw
                    unfold F__inverse_eight_c10 at hw
                    refine ⟨_, _, rfl, (SqT.of (S638.sG _ _ h655)), rfl, _, _, rfl, _, _, rfl, rfl, rfl, ?_⟩
                    refine tyes_go ?_
                    refine ⟨_, rfl, _, h639, (app_lenM z660), ?_⟩
                    generalize g662 : upd H637 D608 _ = H663
                    obtain ⟨x664, h665⟩ := gen_mut g662
                    have S666 := S638.mut1 x664 (.head _) h665
                    have hw := cW_ok hw
                    have h667 := (x664 _ _ h649 (ne_of_none (e599 _ _ h593) n609))
                    have h668 := (x664 _ _ h650 (ne_of_none h601 n609))
                    have h669 := (x664 _ _ h651 (ne_of_none (e599 _ _ h583) n609))
                    exact ⟨_, (acc642 ++ [x652.2]), eG641, S666, h667, h668, h669, (snoc_map h665), (same_mut eo648 x664 n609), hw⟩
                  intro H670 hw
                  obtain ⟨G673, acc675, eG674, S671, h682, h683, h684, h672, eo681, hw⟩ := hw
                  have hw := hK607 _ (cW_mapA0 (by rw [(RpAll.mono eG674 d604).len, List.length_map]) hw)
                  have fr685 := S603.free n609
                  obtain ⟨g686, hw⟩ := cW_grd hw
                  refine ⟨_, _, _, _, rfl, rfl, h684, h672, (cat_lenM g686), fun p687 n688 => ?_⟩
                  generalize g689 : upd H670 p687 _ = H690
                  obtain ⟨e691, h692⟩ := gen_new n688 g689
                  have h693 : H690 p687 = some (.lst (((acc586) ++ (acc675) : (List Int)).map V.int)) := cat_map h692
                  have fr694 := S671.free n688
                  have S695 := S671.new n688 e691 h693 fr694
                  have hw := cW_ok hw
                  exact hK0 _ hw _ _ fr694 S695.b0 h693

abbrev N_inverse : List Str := ["values"]
theorem sc_inverse : FnScope N_inverse ["values"] (defScope s_inverse) := ⟨rfl, rfl, rfl, by decide +kernel, rfl, by decide +kernel, by decide +kernel⟩
theorem ok_inverse (D : DefX K mg "inverse" s_inverse ["values"] pats_inverse) (T : Txt K mg AD) (c_check_size : CalX P w K mg base 1 "check_size" (sp_check_size K AD) pats_check_size) (c__inverse_four : CalX P w K mg base 2 "_inverse_four" (sp__inverse_four K AD) pats__inverse_four) (c__inverse_eight : CalX P w K mg base 3 "_inverse_eight" (sp__inverse_eight K AD) pats__inverse_eight) : CalX P w K mg base 4 "inverse" (sp_inverse K AD) pats_inverse := by
  refine D.ok sc_inverse (fun vs H Q E h => ?_) (fun f cdv A_ outer s H vs Q E hr h => ?_)
  · obtain ⟨G, a_values, values', rfl, _⟩ := h
    rfl
  · obtain ⟨G, a_values, values', rfl, sG, q_values, hw⟩ := h
    refine ⟨_, (pss_cons (ps_expr (vx_callX c_check_size pat_check_size_0 (.head _) hr (by decide) (takes_of rfl rfl rfl rfl) rfl (pa_cons (pe_callB (call_lenLiK (K := K)) (by rfl) T.b_len (by decide +kernel) (pa_cons (pv 0) pa_nil)) pa_nil) pk_nil))
      (pss_one (ps_ret (pe_ifExp (pt_cmp (pc_eqI (pe_callB (call_lenLiK (K := K)) (by rfl) T.b_len (by decide +kernel) (pa_cons (pv 0) pa_nil)) pe_int)) (vx_callX c__inverse_four pat__inverse_four_0 (.head _) hr (by decide) (takes_of rfl rfl rfl rfl) rfl (pa_cons (pv 0) pa_nil) pk_nil) (vx_callX c__inverse_eight pat__inverse_eight_0 (.head _) hr (by decide) (takes_of rfl rfl rfl rfl) rfl (pa_cons (pv 0) pa_nil) pk_nil))))), ?_⟩
    obtain ⟨KK, EE, hK0, hE, hw⟩ := cW_gen hw
    have S0 := Sep.startG sG
    unfold F_inverse at hw
    refine ⟨_, rfl, _, _, rfl, (SqL.of (S0.bM _ _ q_values)), rfl, rfl, G, _, rfl, S0.sG, cW_call hw (fun v696 hw => ?_) (fun e he => hE e he _ S0.b0)⟩
    refine ⟨_, rfl, _, _, rfl, (SqL.of (S0.bM _ _ q_values)), _, _, rfl, rfl, _, rfl, ?_⟩
    refine iteD (fun c697 => ?_) (fun c697 => ?_)
    · have hw := cW_pos c697 hw
      refine ⟨_, rfl, rfl, rfl, G, _, _, rfl, S0.sG, (hide_nil (S0.bM _ _ q_values)), cW_call hw (fun v698 hw p701 H699 n702 e700 h703 => ?_) (fun e he H2 e2 => hE e he H2 (Same.trans S0.b0 e2))⟩
      have h704 : H699 p701 = some (.lst ((v698 : (List Int)).map V.int)) := h703
      have fr705 := S0.free n702
      have S706 := S0.new n702 e700 h704 fr705
      have hw := cW_ok hw
      exact hK0 _ hw _ _ fr705 S706.b0 h704
    · have hw := cW_neg c697 hw
      refine ⟨_, rfl, rfl, rfl, G, _, _, rfl, S0.sG, (hide_nil (S0.bM _ _ q_values)), cW_call hw (fun v707 hw p710 H708 n711 e709 h712 => ?_) (fun e he H2 e2 => hE e he H2 (Same.trans S0.b0 e2))⟩
      have h713 : H708 p710 = some (.lst ((v707 : (List Int)).map V.int)) := h712
      have fr714 := S0.free n711
      have S715 := S0.new n711 e709 h713 fr714
      have hw := cW_ok hw
      exact hK0 _ hw _ _ fr714 S715.b0 h713

abbrev N_transposed : List Str := ["rows", "column"]
theorem sc_transposed : FnScope N_transposed ["rows"] (defScope s_transposed) := ⟨rfl, rfl, rfl, by decide +kernel, rfl, by decide +kernel, by decide +kernel⟩
theorem ok_transposed (D : DefX K mg "transposed" s_transposed ["rows"] pats_transposed) (T : Txt K mg AD)  : CalX P w K mg base 1 "transposed" (sp_transposed K AD) pats_transposed := by
  refine D.ok sc_transposed (fun vs H Q E h => ?_) (fun f cdv A_ outer s H vs Q E hr h => ?_)
  · obtain ⟨G, v_rows, rows', rfl, _⟩ := h
    rfl
  · obtain ⟨G, v_rows, rows', rfl, sG, r_rows, hw⟩ := h
    refine ⟨_, (pss_one (ps_ret (pe_lc (own := [("column", 1)]) (g := gName 1) (by rfl) sc_transposed.nd (Vz.pi_zipN (K := K) rfl T.b_zip (pv 0)) (blkOk_by (own := [("column", 1)]) (N := N_transposed) (sc := defScope s_transposed) (by decide +kernel)) (fun _ _ _ _ _ => (pg_name (i := 1) sc_transposed.nd rfl (Or.inl rfl))) (fun _ _ _ _ _ => pts_nil) (fun _ _ _ _ _ => (pe_callTy (call_listTK (K := K)) (by rfl) T.b_list (by decide +kernel) (pa_cons (pv 1) pa_nil)))))), ?_⟩
    obtain ⟨KK, EE, hK0, hE, hw⟩ := cW_gen hw
    have S0 := Sep.startG sG
    unfold F_transposed at hw
    obtain ⟨a716, vs717, rfl, h718, d719⟩ := rp_list r_rows
    obtain ⟨g720, hw⟩ := cW_grd hw
    obtain ⟨ls721, els722, rws723⟩ := rows_rp (K := K) S0.bM d719
    obtain ⟨K725, hK726, hw⟩ := cW_push hw
    refine ⟨_, rfl, _, ls721, rfl, (SqL.cast (SqL.of (S0.bM _ _ h718)) els722), (by rw [rws723.1]; exact g720), rws723.all, fun D727 n728 => lc_zipN (K := K) (ls := ls721) (xss := rows') (ne_of_len g720) (fun i H' => ∃ (G' : Hp) (acc730 : (List (List Int))) (vs731 : List V) (L729 : List Addr), Same G G' ∧ Sep [] H G G' H' (D727 :: (L729 ++ [])) ∧ H' D727 = some (.lst vs731) ∧ OwAll G' H' L729 vs731 ((acc730 : (List (List Int))).map (oL oI)) ∧ (∀ b ∈ L729, H b = none) ∧ (∀ b ∈ L729, b ≠ D727) ∧ Same H H' ∧ cW (mapA (List.drop i (zipRows (rows'))) acc730 (fun x => noEr (F_transposed_c1  x))) K725 EE) ?_ ?_ ?_ ?_⟩
    · generalize g732 : upd H D727 _ = H733
      obtain ⟨e734, h735⟩ := gen_new n728 g732
      have fr736 := S0.free n728
      have S737 := S0.new n728 e734 h735 fr736
      exact ⟨_, [], [], [], Same.refl _, (S737.sub (all_cons (.head _) (all_app (L := []) all_nil all_nil))), h735, OwAll.nil, all_nil, all_nil, e734, hw⟩
    · intro i H738 _ hw
      obtain ⟨G741, acc743, vs744, L746, eG742, S739, h740, d745, nb747, nd748, eo749, hw⟩ := hw
      exact RowsAt.again els722 (rows_rp (K := K) S739.bM d719)
    · intro i T_ H750 hi n751 hw
      obtain ⟨G754, acc756, vs757, L759, eG755, S752, h753, d758, nb760, nd761, eo762, hw⟩ := hw
      generalize g763 : upd H750 T_ _ = H764
      obtain ⟨e765, h766⟩ := gen_new n751 g763
      have h767 : H764 T_ = some (.tup ((colOf (rows') i).map V.int)) := h766
      have fr768 := S752.free n751
      obtain ⟨G770, eG771, hg772, S769⟩ := S752.grow n751 e765 h767 fr768
      obtain ⟨z773, hw⟩ := cW_mapA (zipRows_get hi) hw
      have hw := cW_noEr hw
      have hw : cW (F_transposed_c1  ((colOf (rows') i))) _ (fun _ => False) := hw
      unfold F_transposed_c1 at hw
      refine ⟨rfl, ?_⟩
      refine tyes_go ?_
      refine ⟨_, rfl, _, _, rfl, (SqT.of (S769.sG _ _ hg772)), fun p775 n776 => ?_⟩
      generalize g777 : upd H764 p775 _ = H778
      obtain ⟨e779, h780⟩ := gen_new n776 g777
      have h781 : H778 p775 = some (.lst (((colOf (rows') i) : (List Int)).map V.int)) := h780
      have fr782 := S769.free n776
      have S783 := S769.new n776 e779 h781 fr782
      have w784 : OwAll G770 H778 L759 (vs757) ((acc756 : (List (List Int))).map (oL oI)) := (OwAll.mono eG771 keeps_refl (OwAll.mono (Same.refl _) (keeps_same e779) (OwAll.mono (Same.refl _) (keeps_same e765) d758)))
      have h785 := (e779 _ _ (e765 _ _ h753))
      refine ⟨_, h785, (app_len (OwAll.rpA w784 (encO_L encO_I) S783.sG) z773), ?_⟩
      generalize g786 : upd H778 D727 _ = H787
      obtain ⟨x788, h789⟩ := gen_mut g786
      have S790 := S783.mut1 x788 (.tail _ (.head _)) h789
      have hw := cW_ok hw
      exact ⟨_, (acc756 ++ [(colOf (rows') i)]), _, (L759 ++ (p775 :: ([] : List Addr))), (Same.trans eG755 eG771), (S790.sub (all_cons (.tail _ (.head _)) (all_app (all_app ((fun b hb => (.tail _ (.tail _ (List.mem_append_left _ hb)))) : ∀ b ∈ L759, b ∈ (p775 :: (D727 :: (L759 ++ [])))) (all_cons (.head _) all_nil)) all_nil))), h789, (OwAll.mono (Same.refl _) (keeps_mut x788 ((all_app nd761 (all_cons (ne_of_none (e765 _ _ h753) n776).symm all_nil)) : ∀ b ∈ (L759 ++ (p775 :: ([] : List Addr))), b ≠ D727)) (OwAll.snocM w784 (Ow.ints h781) ((fun b hb => (nm_cons ((there_ne (fun b_ hb_ => (S769.ow b_ (((fun b hb => (.tail _ (List.mem_append_left _ hb))) : ∀ b ∈ L759, b ∈ (D727 :: (L759 ++ []))) b_ hb_)).2.1) n776) b hb) nm_nil)) : ∀ b ∈ L759, b ∉ (p775 :: ([] : List Addr))))), ((all_app nb760 (all_cons (none_of_same (Same.trans eo762 e765) n776) all_nil)) : ∀ b ∈ (L759 ++ (p775 :: ([] : List Addr))), H b = none), ((all_app nd761 (all_cons (ne_of_none (e765 _ _ h753) n776).symm all_nil)) : ∀ b ∈ (L759 ++ (p775 :: ([] : List Addr))), b ≠ D727), (same_mut (Same.trans (Same.trans eo762 e765) e779) x788 n728), hw⟩
    intro H791 hw
    obtain ⟨G794, acc796, vs797, L799, eG795, S792, h793, d798, nb800, nd801, eo802, hw⟩ := hw
    have hw := hK726 _ (cW_mapA0 (zipRows_len _).symm hw)
    have fr803 := S0.free n728
    have hw := cW_ok hw
    exact hK0 _ hw _ _ _ _ _ fr803 ((fun b hb => Sep.h0 S792 (((fun b hb => (.tail _ (List.mem_append_left _ hb))) : ∀ b ∈ L799, b ∈ (D727 :: (L799 ++ []))) b hb) nm_nil) : ∀ b ∈ L799, H b = none) (nd801 : ∀ b ∈ L799, b ≠ D727) S792.b0 S792.g0 S792.sG S792.gn (S792.ow _ (.head _)).1 ((fun b hb => (S792.ow b (((fun b hb => (.tail _ (List.mem_append_left _ hb))) : ∀ b ∈ L799, b ∈ (D727 :: (L799 ++ []))) b hb)).1) : ∀ b ∈ L799, G794 b = none) h793 d798

abbrev N_inverse_square : List Str := ["square", "columns", "column", "row"]
theorem sc_inverse_square : FnScope N_inverse_square ["square"] (defScope s_inverse_square) := ⟨rfl, rfl, rfl, by decide +kernel, rfl, by decide +kernel, by decide +kernel⟩
theorem ok_inverse_square (D : DefX K mg "inverse_square" s_inverse_square ["square"] pats_inverse_square) (T : Txt K mg AD) (c_check_square : CalX P w K mg base 2 "check_square" (sp_check_square K AD) pats_check_square) (c_transposed : CalX P w K mg base 1 "transposed" (sp_transposed K AD) pats_transposed) (c_inverse : CalX P w K mg base 4 "inverse" (sp_inverse K AD) pats_inverse) : CalX P w K mg base 5 "inverse_square" (sp_inverse_square K AD) pats_inverse_square := by
  refine D.ok sc_inverse_square (fun vs H Q E h => ?_) (fun f cdv A_ outer s H vs Q E hr h => ?_)
  · obtain ⟨G, v_square, square', rfl, _⟩ := h
    rfl
  · obtain ⟨G, v_square, square', rfl, sG, r_square, hw⟩ := h
    refine ⟨_, (pss_cons (ps_expr (vx_callX c_check_square pat_check_square_0 (.head _) hr (by decide) (takes_of rfl rfl rfl rfl) rfl (pa_cons (pv 0) pa_nil) pk_nil))
      (pss_cons (ps_setLc (i := 1) (y := "columns") rfl sc_inverse_square.nd rfl rfl (sw_true rfl rfl rfl (by decide +kernel)) (own := [("column", 2)]) (g := gName 2) (pi_listK (K := K) (vx_callX c_transposed pat_transposed_0 (.head _) hr (by decide) (takes_of rfl rfl rfl rfl) rfl (pa_cons (pv 0) pa_nil) pk_nil)) (blkOk_by (own := [("column", 2)]) (N := N_inverse_square) (sc := defScope s_inverse_square) (by decide +kernel)) (fun _ _ _ _ _ => (pg_name (i := 2) sc_inverse_square.nd rfl (Or.inl rfl))) (fun _ _ _ _ _ => pts_nil) (fun _ _ _ _ _ => (vx_callX c_inverse pat_inverse_0 (.head _) hr (by decide) takes0 rfl (pa_cons (pv 2) pa_nil) pk_nil)))
      (pss_one (ps_ret (pe_lc (own := [("row", 3)]) (g := gName 3) (by rfl) sc_inverse_square.nd (pi_listK (K := K) (vx_callX c_transposed pat_transposed_0 (.head _) hr (by decide) (takes_of rfl rfl rfl rfl) rfl (pa_cons (pv 1) pa_nil) pk_nil)) (blkOk_by (own := [("row", 3)]) (N := N_inverse_square) (sc := defScope s_inverse_square) (by decide +kernel)) (fun _ _ _ _ _ => (pg_name (i := 3) sc_inverse_square.nd rfl (Or.inl rfl))) (fun _ _ _ _ _ => pts_nil) (fun _ _ _ _ _ => (vx_callX c_inverse pat_inverse_0 (.head _) hr (by decide) takes0 rfl (pa_cons (pv 3) pa_nil) pk_nil))))))), ?_⟩
    obtain ⟨KK, EE, hK0, hE, hw⟩ := cW_gen hw
    have S0 := Sep.startG sG
    unfold F_inverse_square at hw
    obtain ⟨a804, vs805, rfl, h806, d807⟩ := rp_list r_square
    refine ⟨_, rfl, rfl, rfl, G, _, _, rfl, S0.sG, (Rp.hide_nil (rp_mk_list (S0.bM _ _ h806) (RpAll.mono S0.bM d807))), cW_call hw (fun v808 hw H809 e810 => ?_) (fun e he H2 e2 => hE e he H2 (Same.trans S0.b0 e2))⟩
    have S811 := S0.same e810
    refine ⟨_, rfl, rfl, rfl, G, _, _, rfl, S811.sG, (Rp.hide_nil (rp_mk_list (S811.bM _ _ h806) (RpAll.mono S811.bM d807))), cW_call hw (fun v812 hw H813 a815 vs816 L817 G818 n819 nb820 nd821 e814 eG822 sG823 hn824 ga825 gL826 h827 w828 => ?_) (fun e he H2 e2 => hE e he H2 (Same.trans S811.b0 e2))⟩
    have fr829 := S811.free n819
    have S830 : Sep _ _ _ _ H813 (a815 :: (L817 ++ [])) := Sep.steptree S811 e814 eG822 sG823 hn824 (a815 :: L817) (all_cons ⟨n819, ga825, some_ne h827⟩ (fun b hb => ⟨nb820 b hb, gL826 b hb, OwAll.there w828 b hb⟩))
    obtain ⟨K832, hK833, hw⟩ := cW_push hw
    refine ⟨_, rfl, ⟨_, (SqL.of h827)⟩, fun D834 n835 => lc_list (K := K) (a := a815) (xs := vs816) (fun i H' => ∃ (G' : Hp) (acc837 : (List (List Int))) (vs838 : List V) (L836 : List Addr), Same G818 G' ∧ Sep [] H G G' H' (D834 :: (L836 ++ (a815 :: (L817 ++ [])))) ∧ H' a815 = some (.lst (vs816)) ∧ H' D834 = some (.lst vs838) ∧ OwAll G' H' L817 (vs816) ((v812 : (List (List Int))).map (oL oI)) ∧ OwAll G' H' L836 vs838 ((acc837 : (List (List Int))).map (oL oI)) ∧ (∀ b ∈ L836, H813 b = none) ∧ (∀ b ∈ L836, b ≠ D834) ∧ Same H813 H' ∧ cW (mapA (List.drop i (v812)) acc837 (fun x => noEr (F_inverse_square_c1  x))) K832 EE) ?_ ?_ ?_ ?_⟩
    · generalize g839 : upd H813 D834 _ = H840
      obtain ⟨e841, h842⟩ := gen_new n835 g839
      have fr843 := S830.free n835
      have S844 := S830.new n835 e841 h842 fr843
      have h845 := (e841 _ _ h827)
      have w846 : OwAll G818 H840 L817 (vs816) ((v812 : (List (List Int))).map (oL oI)) := (OwAll.mono (Same.refl _) (keeps_same e841) w828)
      exact ⟨_, [], [], [], Same.refl _, (S844.sub (all_cons (.head _) (all_app (L := []) all_nil (all_cons (.tail _ (.head _)) (all_app ((fun b hb => (.tail _ (.tail _ (List.mem_append_left _ hb)))) : ∀ b ∈ L817, b ∈ (D834 :: (a815 :: (L817 ++ [])))) all_nil))))), h845, h842, w846, OwAll.nil, all_nil, all_nil, e841, hw⟩
    · intro i H847 _ hw
      obtain ⟨G850, acc852, vs853, L855, eG851, S848, h859, h849, w860, d854, nb856, nd857, eo858, hw⟩ := hw
      exact (SqL.of h859)
    · intro i x H861 hj hw
      obtain ⟨G864, acc866, vs867, L869, eG865, S862, h873, h863, w874, d868, nb870, nd871, eo872, hw⟩ := hw
      obtain ⟨x875, L876, hx, w877, hs878⟩ := OwAll.turn w874 hj
      obtain ⟨b879, rfl, rfl, h880⟩ := Ow.toInts w877
      have hv881 := hj
      have hx882 := hx
      obtain ⟨z883, hw⟩ := cW_mapA hx hw
      have hw := cW_noEr hw
      have hw : cW (F_inverse_square_c1  (x875)) _ (fun _ => False) := hw
      unfold F_inverse_square_c1 at hw
      refine ⟨rfl, ?_⟩
      refine tyes_go ?_
      refine ⟨_, rfl, rfl, rfl, G864, _, _, rfl, S862.sG, (hide_nil h880), cW_call hw (fun v885 hw p888 H886 n889 e887 h890 => ?_) (fun e he => he.elim)⟩
      have h891 : H886 p888 = some (.lst ((v885 : (List Int)).map V.int)) := h890
      have fr892 := S862.free n889
      have S893 := S862.new n889 e887 h891 fr892
      have w894 : OwAll G864 H886 L869 (vs867) ((acc866 : (List (List Int))).map (oL oI)) := (OwAll.mono (Same.refl _) (keeps_same e887) d868)
      have h895 := (e887 _ _ h863)
      refine ⟨_, h895, (app_len (OwAll.rpA w894 (encO_L encO_I) S893.sG) z883), ?_⟩
      generalize g896 : upd H886 D834 _ = H897
      obtain ⟨x898, h899⟩ := gen_mut g896
      have S900 := S893.mut1 x898 (.tail _ (.head _)) h899
      have hw := cW_ok hw
      have h901 := (x898 _ _ (e887 _ _ h873) (ne_of_none h827 n835))
      have w902 : OwAll G864 H897 L817 (vs816) ((v812 : (List (List Int))).map (oL oI)) := (OwAll.mono (Same.refl _) (keeps_mut x898 ((there_ne (fun b_ hb_ => (S830.ow b_ (((fun b hb => (.tail _ (List.mem_append_left _ hb))) : ∀ b ∈ L817, b ∈ (a815 :: (L817 ++ []))) b_ hb_)).2.1) n835) : ∀ b ∈ L817, b ≠ D834)) (OwAll.mono (Same.refl _) (keeps_same e887) w874))
      exact ⟨_, (acc866 ++ [v885]), _, (L869 ++ (p888 :: ([] : List Addr))), eG865, (S900.sub (all_cons (.tail _ (.head _)) (all_app (all_app ((fun b hb => (.tail _ (.tail _ (List.mem_append_left _ hb)))) : ∀ b ∈ L869, b ∈ (p888 :: (D834 :: (L869 ++ (a815 :: (L817 ++ [])))))) (all_cons (.head _) all_nil)) (all_cons (.tail _ (.tail _ (List.mem_append_right _ (.head _)))) (all_app ((fun b hb => (.tail _ (.tail _ (List.mem_append_right _ (.tail _ (List.mem_append_left _ hb)))))) : ∀ b ∈ L817, b ∈ (p888 :: (D834 :: (L869 ++ (a815 :: (L817 ++ [])))))) all_nil))))), h901, h899, w902, (OwAll.mono (Same.refl _) (keeps_mut x898 ((all_app nd871 (all_cons (ne_of_none h863 n889).symm all_nil)) : ∀ b ∈ (L869 ++ (p888 :: ([] : List Addr))), b ≠ D834)) (OwAll.snocM w894 (Ow.ints h891) ((fun b hb => (nm_cons ((there_ne (fun b_ hb_ => (S862.ow b_ (((fun b hb => (.tail _ (List.mem_append_left _ hb))) : ∀ b ∈ L869, b ∈ (D834 :: (L869 ++ (a815 :: (L817 ++ []))))) b_ hb_)).2.1) n889) b hb) nm_nil)) : ∀ b ∈ L869, b ∉ (p888 :: ([] : List Addr))))), ((all_app nb870 (all_cons (none_of_same eo872 n889) all_nil)) : ∀ b ∈ (L869 ++ (p888 :: ([] : List Addr))), H813 b = none), ((all_app nd871 (all_cons (ne_of_none h863 n889).symm all_nil)) : ∀ b ∈ (L869 ++ (p888 :: ([] : List Addr))), b ≠ D834), (same_mut (Same.trans eo872 e887) x898 n835), hw⟩
    intro H903 hw
    obtain ⟨G906, acc908, vs909, L911, eG907, S904, h915, h905, w916, d910, nb912, nd913, eo914, hw⟩ := hw
    have hw := hK833 _ (cW_mapA0 (by rw [(OwAll.rpA w916 (encO_L encO_I) S904.sG).len, List.length_map]) hw)
    have fr917 := S830.free n835
    refine ⟨_, rfl, rfl, rfl, G906, _, _, rfl, S904.sG, (Rp.hide_nil (rp_mk_list h905 (OwAll.rpA d910 (encO_L encO_I) S904.sG))), cW_call hw (fun v918 hw H919 a921 vs922 L923 G924 n925 nb926 nd927 e920 eG928 sG929 hn930 ga931 gL932 h933 w934 => ?_) (fun e he H2 e2 => hE e he H2 (Same.trans S904.b0 e2))⟩
    have fr935 := S904.free n925
    have S936 : Sep _ _ _ _ H919 (a921 :: (L923 ++ (D834 :: (L911 ++ (a815 :: (L817 ++ [])))))) := Sep.steptree S904 e920 eG928 sG929 hn930 (a921 :: L923) (all_cons ⟨n925, ga931, some_ne h933⟩ (fun b hb => ⟨nb926 b hb, gL932 b hb, OwAll.there w934 b hb⟩))
    obtain ⟨K938, hK939, hw⟩ := cW_push hw
    refine ⟨_, rfl, ⟨_, (SqL.of h933)⟩, fun D940 n941 => lc_list (K := K) (a := a921) (xs := vs922) (fun i H' => ∃ (G' : Hp) (acc943 : (List (List Int))) (vs944 : List V) (L942 : List Addr), Same G924 G' ∧ Sep [] H G G' H' (D940 :: (L942 ++ (D834 :: (a921 :: (L911 ++ (L923 ++ [])))))) ∧ H' D834 = some (.lst (vs909)) ∧ H' a921 = some (.lst (vs922)) ∧ H' D940 = some (.lst vs944) ∧ OwAll G' H' L911 (vs909) ((acc908 : (List (List Int))).map (oL oI)) ∧ OwAll G' H' L923 (vs922) ((v918 : (List (List Int))).map (oL oI)) ∧ OwAll G' H' L942 vs944 ((acc943 : (List (List Int))).map (oL oI)) ∧ (∀ b ∈ L942, H919 b = none) ∧ (∀ b ∈ L942, b ≠ D940) ∧ Same H919 H' ∧ cW (mapA (List.drop i (v918)) acc943 (fun x => noEr (F_inverse_square_c2  x))) K938 EE) ?_ ?_ ?_ ?_⟩
    · generalize g945 : upd H919 D940 _ = H946
      obtain ⟨e947, h948⟩ := gen_new n941 g945
      have fr949 := S936.free n941
      have S950 := S936.new n941 e947 h948 fr949
      have h951 := (e947 _ _ (e920 _ _ h905))
      have h952 := (e947 _ _ h933)
      have w953 : OwAll G924 H946 L911 (vs909) ((acc908 : (List (List Int))).map (oL oI)) := (OwAll.mono eG928 keeps_refl (OwAll.mono (Same.refl _) (keeps_same e947) (OwAll.mono (Same.refl _) (keeps_same e920) d910)))
      have w954 : OwAll G924 H946 L923 (vs922) ((v918 : (List (List Int))).map (oL oI)) := (OwAll.mono (Same.refl _) (keeps_same e947) w934)
      exact ⟨_, [], [], [], Same.refl _, (S950.sub (all_cons (.head _) (all_app (L := []) all_nil (all_cons (.tail _ (.tail _ (List.mem_append_right _ (.head _)))) (all_cons (.tail _ (.head _)) (all_app ((fun b hb => (.tail _ (.tail _ (List.mem_append_right _ (.tail _ (List.mem_append_left _ hb)))))) : ∀ b ∈ L911, b ∈ (D940 :: (a921 :: (L923 ++ (D834 :: (L911 ++ (a815 :: (L817 ++ [])))))))) (all_app ((fun b hb => (.tail _ (.tail _ (List.mem_append_left _ hb)))) : ∀ b ∈ L923, b ∈ (D940 :: (a921 :: (L923 ++ (D834 :: (L911 ++ (a815 :: (L817 ++ [])))))))) all_nil))))))), h951, h952, h948, w953, w954, OwAll.nil, all_nil, all_nil, e947, hw⟩
    · intro i H955 _ hw
      obtain ⟨G958, acc960, vs961, L963, eG959, S956, h967, h968, h957, w969, w970, d962, nb964, nd965, eo966, hw⟩ := hw
      exact (SqL.of h968)
    · intro i x H971 hj hw
      obtain ⟨G974, acc976, vs977, L979, eG975, S972, h983, h984, h973, w985, w986, d978, nb980, nd981, eo982, hw⟩ := hw
      obtain ⟨x987, L988, hx, w989, hs990⟩ := OwAll.turn w986 hj
      obtain ⟨b991, rfl, rfl, h992⟩ := Ow.toInts w989
      have hv993 := hj
      have hx994 := hx
      obtain ⟨z995, hw⟩ := cW_mapA hx hw
      have hw := cW_noEr hw
      have hw : cW (F_inverse_square_c2  (x987)) _ (fun _ => False) := hw
      unfold F_inverse_square_c2 at hw
      refine ⟨rfl, ?_⟩
      refine tyes_go ?_
      refine ⟨_, rfl, rfl, rfl, G974, _, _, rfl, S972.sG, (hide_nil h992), cW_call hw (fun v997 hw p1000 H998 n1001 e999 h1002 => ?_) (fun e he => he.elim)⟩
      have h1003 : H998 p1000 = some (.lst ((v997 : (List Int)).map V.int)) := h1002
      have fr1004 := S972.free n1001
      have S1005 := S972.new n1001 e999 h1003 fr1004
      have w1006 : OwAll G974 H998 L979 (vs977) ((acc976 : (List (List Int))).map (oL oI)) := (OwAll.mono (Same.refl _) (keeps_same e999) d978)
      have h1007 := (e999 _ _ h973)
      refine ⟨_, h1007, (app_len (OwAll.rpA w1006 (encO_L encO_I) S1005.sG) z995), ?_⟩
      generalize g1008 : upd H998 D940 _ = H1009
      obtain ⟨x1010, h1011⟩ := gen_mut g1008
      have S1012 := S1005.mut1 x1010 (.tail _ (.head _)) h1011
      have hw := cW_ok hw
      have h1013 := (x1010 _ _ (e999 _ _ h983) (ne_of_none (e920 _ _ h905) n941))
      have h1014 := (x1010 _ _ (e999 _ _ h984) (ne_of_none h933 n941))
      have w1015 : OwAll G974 H1009 L911 (vs909) ((acc908 : (List (List Int))).map (oL oI)) := (OwAll.mono (Same.refl _) (keeps_mut x1010 ((there_ne (fun b_ hb_ => (S936.ow b_ (((fun b hb => (.tail _ (List.mem_append_right _ (.tail _ (List.mem_append_left _ hb))))) : ∀ b ∈ L911, b ∈ (a921 :: (L923 ++ (D834 :: (L911 ++ (a815 :: (L817 ++ []))))))) b_ hb_)).2.1) n941) : ∀ b ∈ L911, b ≠ D940)) (OwAll.mono (Same.refl _) (keeps_same e999) w985))
      have w1016 : OwAll G974 H1009 L923 (vs922) ((v918 : (List (List Int))).map (oL oI)) := (OwAll.mono (Same.refl _) (keeps_mut x1010 ((there_ne (fun b_ hb_ => (S936.ow b_ (((fun b hb => (.tail _ (List.mem_append_left _ hb))) : ∀ b ∈ L923, b ∈ (a921 :: (L923 ++ (D834 :: (L911 ++ (a815 :: (L817 ++ []))))))) b_ hb_)).2.1) n941) : ∀ b ∈ L923, b ≠ D940)) (OwAll.mono (Same.refl _) (keeps_same e999) w986))
      exact ⟨_, (acc976 ++ [v997]), _, (L979 ++ (p1000 :: ([] : List Addr))), eG975, (S1012.sub (all_cons (.tail _ (.head _)) (all_app (all_app ((fun b hb => (.tail _ (.tail _ (List.mem_append_left _ hb)))) : ∀ b ∈ L979, b ∈ (p1000 :: (D940 :: (L979 ++ (D834 :: (a921 :: (L911 ++ (L923 ++ [])))))))) (all_cons (.head _) all_nil)) (all_cons (.tail _ (.tail _ (List.mem_append_right _ (.head _)))) (all_cons (.tail _ (.tail _ (List.mem_append_right _ (.tail _ (.head _))))) (all_app ((fun b hb => (.tail _ (.tail _ (List.mem_append_right _ (.tail _ (.tail _ (List.mem_append_left _ hb))))))) : ∀ b ∈ L911, b ∈ (p1000 :: (D940 :: (L979 ++ (D834 :: (a921 :: (L911 ++ (L923 ++ [])))))))) (all_app ((fun b hb => (.tail _ (.tail _ (List.mem_append_right _ (.tail _ (.tail _ (List.mem_append_right _ (List.mem_append_left _ hb)))))))) : ∀ b ∈ L923, b ∈ (p1000 :: (D940 :: (L979 ++ (D834 :: (a921 :: (L911 ++ (L923 ++ [])))))))) all_nil))))))), h1013, h1014, h1011, w1015, w1016, (OwAll.mono (Same.refl _) (keeps_mut x1010 ((all_app nd981 (all_cons (ne_of_none h973 n1001).symm all_nil)) : ∀ b ∈ (L979 ++ (p1000 :: ([] : List Addr))), b ≠ D940)) (OwAll.snocM w1006 (Ow.ints h1003) ((fun b hb => (nm_cons ((there_ne (fun b_ hb_ => (S972.ow b_ (((fun b hb => (.tail _ (List.mem_append_left _ hb))) : ∀ b ∈ L979, b ∈ (D940 :: (L979 ++ (D834 :: (a921 :: (L911 ++ (L923 ++ []))))))) b_ hb_)).2.1) n1001) b hb) nm_nil)) : ∀ b ∈ L979, b ∉ (p1000 :: ([] : List Addr))))), ((all_app nb980 (all_cons (none_of_same eo982 n1001) all_nil)) : ∀ b ∈ (L979 ++ (p1000 :: ([] : List Addr))), H919 b = none), ((all_app nd981 (all_cons (ne_of_none h973 n1001).symm all_nil)) : ∀ b ∈ (L979 ++ (p1000 :: ([] : List Addr))), b ≠ D940), (same_mut (Same.trans eo982 e999) x1010 n941), hw⟩
    intro H1017 hw
    obtain ⟨G1020, acc1022, vs1023, L1025, eG1021, S1018, h1029, h1030, h1019, w1031, w1032, d1024, nb1026, nd1027, eo1028, hw⟩ := hw
    have hw := hK939 _ (cW_mapA0 (by rw [(OwAll.rpA w1032 (encO_L encO_I) S1018.sG).len, List.length_map]) hw)
    have fr1033 := S936.free n941
    have hw := cW_ok hw
    exact hK0 _ hw _ _ _ _ _ fr1033 ((fun b hb => Sep.h0 S1018 (((fun b hb => (.tail _ (List.mem_append_left _ hb))) : ∀ b ∈ L1025, b ∈ (D940 :: (L1025 ++ (D834 :: (a921 :: (L911 ++ (L923 ++ []))))))) b hb) nm_nil) : ∀ b ∈ L1025, H b = none) (nd1027 : ∀ b ∈ L1025, b ≠ D940) S1018.b0 S1018.g0 S1018.sG S1018.gn (S1018.ow _ (.head _)).1 ((fun b hb => (S1018.ow b (((fun b hb => (.tail _ (List.mem_append_left _ hb))) : ∀ b ∈ L1025, b ∈ (D940 :: (L1025 ++ (D834 :: (a921 :: (L911 ++ (L923 ++ []))))))) b hb)).1) : ∀ b ∈ L1025, G1020 b = none) h1019 d1024

abbrev N_step_of : List Str := ["quantizer"]
theorem sc_step_of : FnScope N_step_of ["quantizer"] (defScope s_step_of) := ⟨rfl, rfl, rfl, by decide +kernel, rfl, by decide +kernel, by decide +kernel⟩
theorem ok_step_of (D : DefX K mg "step_of" s_step_of ["quantizer"] pats_step_of) (T : Txt K mg AD)  : CalX P w K mg base 1 "step_of" (sp_step_of K AD) pats_step_of := by
  refine D.ok sc_step_of (fun vs H Q E h => ?_) (fun f cdv A_ outer s H vs Q E hr h => ?_)
  · obtain ⟨G, quantizer', rfl, _⟩ := h
    rfl
  · obtain ⟨G, quantizer', rfl, sG, hw⟩ := h
    refine ⟨_, (pss_cons (ps_if (pt_not (pt_chain op_le op_le pe_int (pv 0) (C8.pe_gc rfl T.g_GREATEST_QUANTIZER))) (pss_one (ps_raise rfl (takes_of rfl rfl rfl rfl) (pmk_own PySem.F.excBase_ValueError T.xx_OutOfRange T.xg_OutOfRange T.xk_OutOfRange (raises_own T.xb_OutOfRange T.xt_OutOfRange) rfl))) pss_nil)
      (pss_one (ps_ret (pe_op op_add (pe_op op_add pe_int (pv 0)) (pe_op op_fdivW (pe_op op_mul (pv 0) (pv 0)) pe_int))))), ?_⟩
    obtain ⟨KK, EE, hK0, hE, hw⟩ := cW_gen hw
    have S0 := Sep.startG sG
    unfold F_step_of at hw
    refine ⟨_, rfl, _, _, rfl, rfl, _, rfl, ?_⟩
    refine iteD (fun c1034 => ?_) (fun c1034 => ?_)
    · have hw := cW_pos c1034 hw
      refine ⟨_, _, rfl, rfl, _, rfl, ?_⟩
      refine iteN (fun c1035 => ?_) (fun c1035 => ?_)
      · have hw := cW_neg c1035 hw
        exact hE 1 (cW_er hw)
      · have hw := cW_pos c1035 hw
        obtain ⟨g1036, hw⟩ := cW_grd hw
        refine ⟨_, rfl, _, _, rfl, rfl, _, rfl, _, rfl, _, _, rfl, rfl, g1036, _, _, rfl, rfl, (divW_lit (by decide) (by decide)), _, _, rfl, rfl, ?_⟩
        have hw := cW_ok hw
        exact hK0 _ hw
    · have hw := cW_neg c1034 hw
      refine ⟨_, rfl, ?_⟩
      refine iteT ?_
      exact hE 1 (cW_er hw)

abbrev N_restore_square : List Str := ["square", "quantizer", "step", "row", "level"]
theorem sc_restore_square : FnScope N_restore_square ["square", "quantizer"] (defScope s_restore_square) := ⟨rfl, rfl, rfl, by decide +kernel, rfl, by decide +kernel, by decide +kernel⟩
theorem ok_restore_square (D : DefX K mg "restore_square" s_restore_square ["square", "quantizer"] pats_restore_square) (T : Txt K mg AD) (c_step_of : CalX P w K mg base 1 "step_of" (sp_step_of K AD) pats_step_of) : CalX P w K mg base 2 "restore_square" (sp_restore_square K AD) pats_restore_square := by
  refine D.ok sc_restore_square (fun vs H Q E h => ?_) (fun f cdv A_ outer s H vs Q E hr h => ?_)
  · obtain ⟨G, v_square, square', quantizer', rfl, _⟩ := h
    rfl
  · obtain ⟨G, v_square, square', quantizer', rfl, sG, r_square, hw⟩ := h
    refine ⟨_, (pss_cons (ps_set (i := 2) sc_restore_square.nd rfl (Or.inr rfl) (vx_callX c_step_of pat_step_of_0 (.head _) hr (by decide) (takes_of rfl rfl rfl rfl) rfl (pa_cons (pv 1) pa_nil) pk_nil))
      (pss_one (ps_ret (pe_lc (own := [("row", 3)]) (g := gName 3) (by rfl) sc_restore_square.nd (pi_listK (K := K) (pv 0)) (blkOk_by (own := [("row", 3)]) (N := N_restore_square) (sc := defScope s_restore_square) (by decide +kernel)) (fun _ _ _ _ _ => (pg_name (i := 3) sc_restore_square.nd rfl (Or.inl rfl))) (fun _ _ _ _ _ => pts_nil) (fun _ _ _ _ _ => (pe_lc (own := [("level", 4)]) (g := gName 4) (by rfl) sc_restore_square.nd (pi_listK (K := K) (pv 3)) (blk_relabel (blkOk_by (own := [("level", 4)]) (N := N_restore_square) (by decide +kernel))) (fun _ _ _ _ _ => (pg_name (i := 4) sc_restore_square.nd rfl (Or.inl rfl))) (fun _ _ _ _ _ => pts_nil) (fun _ _ _ _ _ => (pe_op op_mul (pv 4) (pv 2))))))))), ?_⟩
    obtain ⟨KK, EE, hK0, hE, hw⟩ := cW_gen hw
    have S0 := Sep.startG sG
    unfold F_restore_square at hw
    obtain ⟨a1037, vs1038, rfl, h1039, d1040⟩ := rp_list r_square
    refine ⟨_, rfl, rfl, rfl, G, _, rfl, S0.sG, cW_call hw (fun v1041 hw => ?_) (fun e he => hE e he _ S0.b0)⟩
    obtain ⟨K1044, hK1045, hw⟩ := cW_push hw
    refine ⟨_, rfl, _, rfl, ⟨_, (SqL.of (S0.bM _ _ h1039))⟩, fun D1046 n1047 => lc_list (K := K) (a := a1037) (xs := vs1038) (fun i H' => ∃ (G' : Hp) (acc1049 : (List (List Int))) (vs1050 : List V) (L1048 : List Addr), Same G G' ∧ Sep [] H G G' H' (D1046 :: (L1048 ++ [])) ∧ H' D1046 = some (.lst vs1050) ∧ OwAll G' H' L1048 vs1050 ((acc1049 : (List (List Int))).map (oL oI)) ∧ (∀ b ∈ L1048, H b = none) ∧ (∀ b ∈ L1048, b ≠ D1046) ∧ Same H H' ∧ cW (mapA (List.drop i (square')) acc1049 (fun x => noEr (F_restore_square_c1 (v1041) x))) K1044 EE) ?_ ?_ ?_ ?_⟩
    · generalize g1051 : upd H D1046 _ = H1052
      obtain ⟨e1053, h1054⟩ := gen_new n1047 g1051
      have fr1055 := S0.free n1047
      have S1056 := S0.new n1047 e1053 h1054 fr1055
      exact ⟨_, [], [], [], Same.refl _, (S1056.sub (all_cons (.head _) (all_app (L := []) all_nil all_nil))), h1054, OwAll.nil, all_nil, all_nil, e1053, hw⟩
    · intro i H1057 _ hw
      obtain ⟨G1060, acc1062, vs1063, L1065, eG1061, S1058, h1059, d1064, nb1066, nd1067, eo1068, hw⟩ := hw
      exact (SqL.of (S1058.bM _ _ h1039))
    · intro i x H1069 hj hw
      obtain ⟨G1072, acc1074, vs1075, L1077, eG1073, S1070, h1071, d1076, nb1078, nd1079, eo1080, hw⟩ := hw
      obtain ⟨x1081, hx, r1082⟩ := RpAll.get d1040 hj
      obtain ⟨a1083, rfl, h1084⟩ := rp_ints r1082
      obtain ⟨z1085, hw⟩ := cW_mapA hx hw
      have hw := cW_noEr hw
      have hw : cW (F_restore_square_c1 (v1041) (x1081)) _ (fun _ => False) := hw
      unfold F_restore_square_c1 at hw
      refine ⟨rfl, ?_⟩
      refine tyes_go ?_
      obtain ⟨K1089, hK1090, hw⟩ := cW_push hw
      refine ⟨_, rfl, _, rfl, ⟨_, (SqL.of (S1070.bM _ _ h1084))⟩, fun D1091 n1092 => lc_list (K := K) (a := a1083) (xs := (x1081 : List Int).map V.int) (fun i2 H' => ∃ (G' : Hp) (acc1094 : (List Int)), Same G1072 G' ∧ Sep [] H G G' H' (D1091 :: (D1046 :: (L1077 ++ []))) ∧ H' D1046 = some (.lst (vs1075)) ∧ H' D1091 = some (.lst ((acc1094 : (List Int)).map V.int)) ∧ OwAll G' H' L1077 (vs1075) ((acc1074 : (List (List Int))).map (oL oI)) ∧ Same H1069 H' ∧ cW (mapA (List.drop i2 (x1081)) acc1094 (fun x => noEr (F_restore_square_c2 (v1041) x))) K1089 (fun _ => False)) ?_ ?_ ?_ ?_⟩
      · generalize g1096 : upd H1069 D1091 _ = H1097
        obtain ⟨e1098, h1099⟩ := gen_new n1092 g1096
        have fr1100 := S1070.free n1092
        have S1101 := S1070.new n1092 e1098 h1099 fr1100
        have h1102 := (e1098 _ _ h1071)
        have w1103 : OwAll G1072 H1097 L1077 (vs1075) ((acc1074 : (List (List Int))).map (oL oI)) := (OwAll.mono (Same.refl _) (keeps_same e1098) d1076)
        exact ⟨_, [], Same.refl _, S1101, h1102, h1099, w1103, e1098, hw⟩
      · intro i2 H1104 _ hw
        obtain ⟨G1107, acc1109, eG1108, S1105, h1116, h1106, w1117, eo1115, hw⟩ := hw
        exact (SqL.of (S1105.bM _ _ h1084))
      · intro i2 x H1118 hj hw
        obtain ⟨G1121, acc1123, eG1122, S1119, h1130, h1120, w1131, eo1129, hw⟩ := hw
        obtain ⟨x1132, hx, rfl⟩ := map_get hj
        obtain ⟨z1133, hw⟩ := cW_mapA hx hw
        have hw := cW_noEr hw
        have hw : cW (F_restore_square_c2 (v1041) (x1132)) _ (fun _ => False) := hw
        unfold F_restore_square_c2 at hw
        refine ⟨rfl, ?_⟩
        refine tyes_go ?_
        obtain ⟨g1135, hw⟩ := cW_grd hw
        refine ⟨_, rfl, _, rfl, _, _, rfl, rfl, g1135, _, h1120, (app_lenM z1133), ?_⟩
        generalize g1136 : upd H1118 D1091 _ = H1137
        obtain ⟨x1138, h1139⟩ := gen_mut g1136
        have S1140 := S1119.mut1 x1138 (.head _) h1139
        have hw := cW_ok hw
        have h1141 := (x1138 _ _ h1130 (ne_of_none h1071 n1092))
        have w1142 : OwAll G1121 H1137 L1077 (vs1075) ((acc1074 : (List (List Int))).map (oL oI)) := (OwAll.mono (Same.refl _) (keeps_mut x1138 ((there_ne (fun b_ hb_ => (S1070.ow b_ (((fun b hb => (.tail _ (List.mem_append_left _ hb))) : ∀ b ∈ L1077, b ∈ (D1046 :: (L1077 ++ []))) b_ hb_)).2.1) n1092) : ∀ b ∈ L1077, b ≠ D1091)) w1131)
        exact ⟨_, (acc1123 ++ [(x1132 * v1041)]), eG1122, S1140, h1141, (snoc_map h1139), w1142, (same_mut eo1129 x1138 n1092), hw⟩
      intro H1143 hw
      obtain ⟨G1146, acc1148, eG1147, S1144, h1155, h1145, w1156, eo1154, hw⟩ := hw
      have hw := hK1090 _ (cW_mapA0 (by rw [List.length_map]) hw)
      have fr1157 := S1070.free n1092
      refine ⟨_, h1155, (app_len (OwAll.rpA w1156 (encO_L encO_I) S1144.sG) z1085), ?_⟩
      generalize g1158 : upd H1143 D1046 _ = H1159
      obtain ⟨x1160, h1161⟩ := gen_mut g1158
      have S1162 := S1144.mut1 x1160 (.tail _ (.head _)) h1161
      have hw := cW_ok hw
      exact ⟨_, (acc1074 ++ [acc1148]), _, (L1077 ++ (D1091 :: ([] : List Addr))), (Same.trans eG1073 eG1147), (S1162.sub (all_cons (.tail _ (.head _)) (all_app (all_app ((fun b hb => (.tail _ (.tail _ (List.mem_append_left _ hb)))) : ∀ b ∈ L1077, b ∈ (D1091 :: (D1046 :: (L1077 ++ [])))) (all_cons (.head _) all_nil)) all_nil))), h1161, (OwAll.mono (Same.refl _) (keeps_mut x1160 ((all_app nd1079 (all_cons (ne_of_none h1071 n1092).symm all_nil)) : ∀ b ∈ (L1077 ++ (D1091 :: ([] : List Addr))), b ≠ D1046)) (OwAll.snocM w1156 (Ow.ints h1145) ((fun b hb => (nm_cons ((there_ne (fun b_ hb_ => (S1070.ow b_ (((fun b hb => (.tail _ (List.mem_append_left _ hb))) : ∀ b ∈ L1077, b ∈ (D1046 :: (L1077 ++ []))) b_ hb_)).2.1) n1092) b hb) nm_nil)) : ∀ b ∈ L1077, b ∉ (D1091 :: ([] : List Addr))))), ((all_app nb1078 (all_cons (none_of_same eo1080 n1092) all_nil)) : ∀ b ∈ (L1077 ++ (D1091 :: ([] : List Addr))), H b = none), ((all_app nd1079 (all_cons (ne_of_none h1071 n1092).symm all_nil)) : ∀ b ∈ (L1077 ++ (D1091 :: ([] : List Addr))), b ≠ D1046), (same_mut (Same.trans eo1080 eo1154) x1160 n1047), hw⟩
    intro H1163 hw
    obtain ⟨G1166, acc1168, vs1169, L1171, eG1167, S1164, h1165, d1170, nb1172, nd1173, eo1174, hw⟩ := hw
    have hw := hK1045 _ (cW_mapA0 (by rw [d1040.len, List.length_map]) hw)
    have fr1175 := S0.free n1047
    have hw := cW_ok hw
    exact hK0 _ hw _ _ _ _ _ fr1175 ((fun b hb => Sep.h0 S1164 (((fun b hb => (.tail _ (List.mem_append_left _ hb))) : ∀ b ∈ L1171, b ∈ (D1046 :: (L1171 ++ []))) b hb) nm_nil) : ∀ b ∈ L1171, H b = none) (nd1173 : ∀ b ∈ L1171, b ≠ D1046) S1164.b0 S1164.g0 S1164.sG S1164.gn (S1164.ow _ (.head _)).1 ((fun b hb => (S1164.ow b (((fun b hb => (.tail _ (List.mem_append_left _ hb))) : ∀ b ∈ L1171, b ∈ (D1046 :: (L1171 ++ []))) b hb)).1) : ∀ b ∈ L1171, G1166 b = none) h1165 d1170

abbrev N_scan_order : List Str := ["size", "order", "total", "diagonal", "row"]
theorem sc_scan_order : FnScope N_scan_order ["size"] (defScope s_scan_order) := ⟨rfl, rfl, rfl, by decide +kernel, rfl, by decide +kernel, by decide +kernel⟩
theorem ok_scan_order (D : DefX K mg "scan_order" s_scan_order ["size"] pats_scan_order) (T : Txt K mg AD) (c_check_size : CalX P w K mg base 1 "check_size" (sp_check_size K AD) pats_check_size) : CalX P w K mg base 2 "scan_order" (sp_scan_order K AD) pats_scan_order := by
  refine D.ok sc_scan_order (fun vs H Q E h => ?_) (fun f cdv A_ outer s H vs Q E hr h => ?_)
  · obtain ⟨G, size', rfl, _⟩ := h
    rfl
  · obtain ⟨G, size', rfl, sG, hw⟩ := h
    refine ⟨_, (pss_cons (ps_expr (vx_callX c_check_size pat_check_size_0 (.head _) hr (by decide) (takes_of rfl rfl rfl rfl) rfl (pa_cons (pv 0) pa_nil) pk_nil))
      (pss_cons (ps_set (i := 1) sc_scan_order.nd rfl (Or.inl rfl) (pe_lst pa_nil))
      (pss_cons (ps_for (passes_of rfl) rfl (pi_range1 rfl T.b_range (pa_cons (pe_op op_sub (pe_op op_mul pe_int (pv 0)) pe_int) pa_nil)) (pg_name (i := 2) sc_scan_order.nd rfl (Or.inr rfl)) (pss_cons (ps_setLc (i := 3) (y := "diagonal") rfl sc_scan_order.nd rfl rfl (sw_true rfl rfl rfl (by decide +kernel)) (own := [("row", 4)]) (g := gName 4) (pi_range1 rfl T.b_range (pa_cons (pv 0) pa_nil)) (blkOk_by (own := [("row", 4)]) (N := N_scan_order) (sc := defScope s_scan_order) (by decide +kernel)) (fun _ _ _ _ _ => (pg_name (i := 4) sc_scan_order.nd rfl (Or.inl rfl))) (fun _ _ _ _ _ => pts_one (pt_chain op_le op_lt pe_int (pe_op op_sub (pv 2) (pv 4)) (pv 0))) (fun _ _ _ _ _ => (pe_tup (pa_cons (pv 4) (pa_cons (pe_op op_sub (pv 2) (pv 4)) pa_nil)))))
      (C8.pss_cut (ps_if (pt_cmp (pc_eqI (pe_op op_mod (pv 2) pe_int) pe_int)) (pss_one (ps_expr (pe_bm0 PySem.F.plainAttrs_list PySem.F.slot_list_reverse PySem.F.type_list_reverse mt_reverse (pv 3)))) pss_nil)
      (pss_one (ps_expr (pe_bm PySem.F.plainAttrs_list PySem.F.slot_list_extend PySem.F.type_list_extend mt_extend (pv 1) (pa_cons (pv 3) pa_nil)))))))
      (pss_one (ps_ret (pv 1)))))), ?_⟩
    obtain ⟨KK, EE, hK0, hE, hw⟩ := cW_gen hw
    have S0 := Sep.startG sG
    unfold F_scan_order at hw
    refine ⟨_, rfl, rfl, rfl, G, _, rfl, S0.sG, cW_call hw (fun v1176 hw => ?_) (fun e he => hE e he _ S0.b0)⟩
    refine ⟨(by show 0 ≤ sizeLine; decide), fun p1177 n1178 => ?_⟩
    generalize g1179 : upd H p1177 _ = H1180
    obtain ⟨e1181, h1182⟩ := gen_new n1178 g1179
    have h1183 : H1180 p1177 = some (.lst ([])) := h1182
    have fr1184 := S0.free n1178
    have S1185 := S0.new n1178 e1181 h1183 fr1184
    have d1186 : RpAll G ([]) ((([] : (List (Int × Int))) : (List (Int × Int))).map (encT2 PyData.int PyData.int)) := RpAll.nil
    obtain ⟨g1187, hw⟩ := cW_grd hw
    obtain ⟨K1189, hK1190, hw⟩ := cW_push hw
    refine ⟨_, rfl, _, _, rfl, rfl, (.inl ⟨by decide, by decide⟩), _, _, rfl, rfl, _, rfl, g1187.1, g1187.2, for_range (lo := 0) (n := Int.toNat (((2 * size') - 1))) (fun i σ H' => ∃ (order_1191 : (List (Int × Int))) (vs1192 : List V) (u1193 : Option V) (u1194 : Option V) (G' : Hp), σ = [some (V.int (size')), some (V.ref p1177), u1193, u1194, none] ∧ Same G G' ∧ Sep [] H G G' H' [p1177] ∧ H' p1177 = some (.lst (vs1192)) ∧ RpAll G' (vs1192) ((order_1191 : (List (Int × Int))).map (encT2 PyData.int PyData.int)) ∧ cW (forS (List.drop i (rng (0) (Int.toNat (((2 * size') - 1))))) order_1191 (fun s x => F_scan_order_b1 (size') s x)) K1189 EE) ?_ ?_ ?_⟩
    · exact ⟨(([] : (List (Int × Int)))), _, _, _, _, rfl, (Same.refl _), S1185, h1183, d1186, hw⟩
    · intro i σ H1195 hi hw
      obtain ⟨order_1191, vs1192, u1193, u1194, G1199, rfl, eG1200, S1196, h1197, d1198, hw⟩ := hw
      have hw := cW_forS (rng_get hi) hw
      generalize (0 + (i : Int)) = x1201 at hw ⊢
      have hw : cW (F_scan_order_b1 (size') (order_1191) (x1201)) _ EE := hw
      unfold F_scan_order_b1 at hw
      obtain ⟨K1203, hK1204, hw⟩ := cW_name hw
      obtain ⟨g1206, hw⟩ := cW_grd hw
      obtain ⟨K1210, hK1211, hw⟩ := cW_push hw
      refine ⟨_, rfl, _, rfl, g1206.1, g1206.2, fun D1212 n1213 => lc_range (lo := 0) (n := Int.toNat (size')) (fun i H' => ∃ (G' : Hp) (acc1215 : (List (Int × Int))) (vs1216 : List V), Same G1199 G' ∧ Sep [] H G G' H' [D1212, p1177] ∧ H' p1177 = some (.lst (vs1192)) ∧ H' D1212 = some (.lst vs1216) ∧ RpAll G' vs1216 ((acc1215 : (List (Int × Int))).map (encT2 PyData.int PyData.int)) ∧ Same H1195 H' ∧ cW (mapF (List.drop i (rng (0) (Int.toNat (size')))) acc1215 (fun x => noEr (F_scan_order_c2 (size') (x1201) x))) K1210 EE) ?_ ?_ ?_⟩
      · generalize g1217 : upd H1195 D1212 _ = H1218
        obtain ⟨e1219, h1220⟩ := gen_new n1213 g1217
        have fr1221 := S1196.free n1213
        have S1222 := S1196.new n1213 e1219 h1220 fr1221
        have h1223 := (e1219 _ _ h1197)
        exact ⟨_, [], [], Same.refl _, S1222, h1223, h1220, RpAll.nil, e1219, hw⟩
      · intro i H1224 hi hw
        obtain ⟨G1227, acc1229, vs1230, eG1228, S1225, h1236, h1226, d1231, eo1235, hw⟩ := hw
        obtain ⟨z1237, hw⟩ := cW_mapF (rng_get hi) hw
        generalize (0 + (i : Int)) = x1238 at hw ⊢
        have hw := cW_noEr hw
        have hw : cW (F_scan_order_c2 (size') (x1201) (x1238)) _ (fun _ => False) := hw
        unfold F_scan_order_c2 at hw
        refine ⟨rfl, ?_⟩
        refine ⟨_, rfl, _, rfl, _, _, rfl, rfl, _, _, rfl, rfl, _, rfl, ?_⟩
        refine iteD (fun c1240 => ?_) (fun c1240 => ?_)
        · have hw := cW_pos c1240 hw
          refine ⟨_, rfl, _, _, rfl, rfl, _, rfl, ?_⟩
          refine iteD (fun c1241 => ?_) (fun c1241 => ?_)
          · have hw := cW_pos c1241 hw
            refine ⟨_, rfl, _, rfl, _, rfl, _, _, rfl, rfl, (by show 2 ≤ sizeLine; decide), fun p1242 n1243 => ?_⟩
            generalize g1244 : upd H1224 p1242 _ = H1245
            obtain ⟨e1246, h1247⟩ := gen_new n1243 g1244
            have h1248 : H1245 p1242 = some (.tup [V.int (x1238), V.int ((x1201 - x1238))]) := h1247
            have fr1249 := S1225.free n1243
            obtain ⟨G1251, eG1252, hg1253, S1250⟩ := S1225.grow n1243 e1246 h1248 fr1249
            have h1254 := (e1246 _ _ h1226)
            refine ⟨_, h1254, (app_len (RpAll.mono eG1252 d1231) z1237), ?_⟩
            generalize g1255 : upd H1245 D1212 _ = H1256
            obtain ⟨x1257, h1258⟩ := gen_mut g1255
            have S1259 := S1250.mut1 x1257 (.head _) h1258
            have hw := cW_ok hw
            have h1260 := (x1257 _ _ (e1246 _ _ h1236) (ne_of_none h1197 n1213))
            exact ⟨_, (acc1229 ++ [(x1238, (x1201 - x1238))]), _, (Same.trans eG1228 eG1252), S1259, h1260, h1258, (app_map (RpAll.mono eG1252 d1231) (RpAll.one (rp_mk2 hg1253 (.int _) (.int _)))), (same_mut (Same.trans eo1235 e1246) x1257 n1213), hw⟩
          · have hw := cW_neg c1241 hw
            have hw := cW_ok hw
            exact ⟨_, acc1229, _, eG1228, S1225, h1236, h1226, d1231, eo1235, hw⟩
        · have hw := cW_neg c1240 hw
          refine ⟨_, rfl, ?_⟩
          refine iteF ?_
          have hw := cW_ok hw
          exact ⟨_, acc1229, _, eG1228, S1225, h1236, h1226, d1231, eo1235, hw⟩
      intro H1261 hw
      obtain ⟨G1264, acc1266, vs1267, eG1265, S1262, h1273, h1263, d1268, eo1272, hw⟩ := hw
      have hw := hK1211 _ (cW_mapF0 (rng_len _ _).symm hw)
      have fr1274 := S1196.free n1213
      refine ⟨fun σ H' => ∃ (diagonal_1277 : (List (Int × Int))) (vs1278 : List V) (G' : Hp), σ = [some (V.int (size')), some (V.ref p1177), some (V.int (x1201)), some (V.ref D1212), none] ∧ Same G1264 G' ∧ Sep [] H G G' H' [p1177, D1212] ∧ H' p1177 = some (.lst (vs1192)) ∧ H' D1212 = some (.lst (vs1278)) ∧ RpAll G' (vs1278) ((diagonal_1277 : (List (Int × Int))).map (encT2 PyData.int PyData.int)) ∧ cW (F_scan_order_k3 (order_1191) diagonal_1277) K1203 EE, ?_, ?_⟩
      · obtain ⟨K1279, hK1280, hw⟩ := cW_push hw
        refine ⟨_, rfl, _, _, rfl, rfl, (show (0 : Int) < 2 by decide), _, _, rfl, rfl, _, rfl, ?_⟩
        refine iteD (fun c1281 => ?_) (fun c1281 => ?_)
        · have hw := cW_pos c1281 hw
          refine ⟨_, rfl, (.inl ⟨rfl, _, SqL.of h1263⟩), _, _, rfl, rfl, h1263, ?_⟩
          generalize g1282 : upd H1261 D1212 _ = H1283
          obtain ⟨x1284, h1285⟩ := gen_mut g1282
          have h1286 : H1283 D1212 = some (.lst ((vs1267).reverse)) := h1285
          have S1287 := S1262.mut1 x1284 (.head _) h1286
          have d1288 : RpAll G1264 ((vs1267).reverse) (((acc1266).reverse : (List (Int × Int))).map (encT2 PyData.int PyData.int)) := rev_all d1268
          have hw := cW_bnd hw
          have hw := cW_ok hw
          have hw := hK1280 _ hw
          have h1290 := (x1284 _ _ h1273 (ne_of_none h1197 n1213))
          exact ⟨((acc1266).reverse), _, _, rfl, (Same.refl _), (S1287.sub (all_cons (.tail _ (.head _)) (all_cons (.head _) all_nil))), h1290, h1286, d1288, hw⟩
        · have hw := cW_neg c1281 hw
          have hw := cW_ok hw
          have hw := hK1280 _ hw
          exact ⟨(acc1266), _, _, rfl, (Same.refl _), (S1262.sub (all_cons (.tail _ (.head _)) (all_cons (.head _) all_nil))), h1273, h1263, d1268, hw⟩
      · intro σ H1291 hw
        obtain ⟨diagonal_1277, vs1278, G1296, rfl, eG1297, S1292, h1293, h1294, d1295, hw⟩ := hw
        unfold F_scan_order_k3 at hw
        obtain ⟨g1298, hw⟩ := cW_grd hw
        refine ⟨_, rfl, (.inl ⟨rfl, _, SqL.of h1293⟩), _, rfl, ?_⟩
        obtain ⟨G1299, eG1300, hg1301, S1302⟩ := Sep.freeze (O' := [p1177]) S1292 (.tail _ (.head _)) h1294 fr1274 ((all_cons ⟨(.head _), (ne_of_none h1197 n1213)⟩ all_nil))
        refine ⟨_, _, _, _, rfl, rfl, h1293, (S1302.sG _ _ hg1301), (cat_len (RpAll.mono eG1300 (RpAll.mono eG1297 (RpAll.mono eG1265 d1198))) (RpAll.mono eG1300 d1295) g1298), ?_⟩
        generalize g1303 : upd H1291 p1177 _ = H1304
        obtain ⟨x1305, h1306⟩ := gen_mut g1303
        have h1307 : H1304 p1177 = some (.lst (vs1192 ++ vs1278)) := h1306
        have S1308 := S1302.mut1 x1305 (.head _) h1307
        have d1309 : RpAll G1299 (vs1192 ++ vs1278) (((order_1191) ++ (diagonal_1277) : (List (Int × Int))).map (encT2 PyData.int PyData.int)) := app_map (RpAll.mono eG1300 (RpAll.mono eG1297 (RpAll.mono eG1265 d1198))) (RpAll.mono eG1300 d1295)
        have hw := cW_bnd hw
        have hw := cW_ok hw
        have hw := hK1204 _ hw
        exact ⟨((order_1191) ++ (diagonal_1277)), _, _, _, _, rfl, (Same.trans (Same.trans (Same.trans eG1200 eG1265) eG1297) eG1300), S1308, h1307, d1309, hw⟩
    · intro σ H1311 hw
      obtain ⟨order_1191, vs1192, u1193, u1194, G1315, rfl, eG1316, S1312, h1313, d1314, hw⟩ := hw
      have hw := hK1190 _ (cW_forS0 (rng_len _ _).symm hw)
      have hw : cW (F_scan_order_r1  (order_1191)) _ EE := hw
      unfold F_scan_order_r1 at hw
      refine ⟨_, rfl, ?_⟩
      obtain ⟨G1318, eG1319, hg1320, S1321⟩ := Sep.freeze (O' := []) S1312 (.head _) h1313 fr1184 (all_nil)
      have hw := cW_ok hw
      exact hK0 _ hw _ _ _ S1321.b0 S1321.g0 S1321.sG S1321.gn (rp_mk_list hg1320 (RpAll.mono eG1319 d1314))

abbrev N_to_square : List Str := ["levels", "size", "square", "level", "row", "column", "_"]
theorem sc_to_square : FnScope N_to_square ["levels"] (defScope s_to_square) := ⟨rfl, rfl, rfl, by decide +kernel, rfl, by decide +kernel, by decide +kernel⟩
theorem ok_to_square (D : DefX K mg "to_square" s_to_square ["levels"] pats_to_square) (T : Txt K mg AD) (c_scan_order : CalX P w K mg base 2 "scan_order" (sp_scan_order K AD) pats_scan_order) : CalX P w K mg base 3 "to_square" (sp_to_square K AD) pats_to_square := by
  refine D.ok sc_to_square (fun vs H Q E h => ?_) (fun f cdv A_ outer s H vs Q E hr h => ?_)
  · obtain ⟨G, a_levels, levels', rfl, _⟩ := h
    rfl
  · obtain ⟨G, a_levels, levels', rfl, sG, q_levels, hw⟩ := h
    refine ⟨_, (pss_cons (ps_if (pt_cmpR (op_notInDI (K := K)) (pe_callB (call_lenLiK (K := K)) (by rfl) T.b_len (by decide +kernel) (pa_cons (pv 0) pa_nil)) (C8.pe_gc (v := V.ref AD.t_SIZES_BY_COUNT) rfl T.g_SIZES_BY_COUNT) (by with_unfolding_all rfl)) (pss_one (ps_raise rfl (takes_of rfl rfl rfl rfl) (pmk_own PySem.F.excBase_ValueError T.xx_OutOfRange T.xg_OutOfRange T.xk_OutOfRange (raises_own T.xb_OutOfRange T.xt_OutOfRange) rfl))) pss_nil)
      (pss_cons (ps_set (i := 1) sc_to_square.nd rfl (Or.inr rfl) (pe_ix (ix_DI (K := K)) (C8.pe_gc (v := V.ref AD.t_SIZES_BY_COUNT) rfl T.g_SIZES_BY_COUNT) (pe_callB (call_lenLiK (K := K)) (by rfl) T.b_len (by decide +kernel) (pa_cons (pv 0) pa_nil)) (fun _ _ => rfl)))
      (pss_cons (ps_setLc (i := 2) (y := "square") rfl sc_to_square.nd rfl rfl (sw_true rfl rfl rfl (by decide +kernel)) (own := [("_", 6)]) (g := gName 6) (pi_range1 rfl T.b_range (pa_cons (pv 1) pa_nil)) (blkOk_by (own := [("_", 6)]) (N := N_to_square) (sc := defScope s_to_square) (by decide +kernel)) (fun _ _ _ _ _ => (pg_name (i := 6) sc_to_square.nd rfl (Or.inl rfl))) (fun _ _ _ _ _ => pts_nil) (fun _ _ _ _ _ => (pe_op op_rep (pe_lst (pa_cons pe_int pa_nil)) (pv 1))))
      (pss_cons (ps_for (passes_of rfl) rfl (pi_zipK (K := K) rfl T.b_zip (pa_cons (pv 0) (pa_cons (vx_callX c_scan_order pat_scan_order_0 (.head _) hr (by decide) (takes_of rfl rfl rfl rfl) rfl (pa_cons (pv 1) pa_nil) pk_nil) pa_nil))) (pg_tupK (K := K) (n := 2) (pgs_cons (pg_name (i := 3) sc_to_square.nd rfl (Or.inl rfl)) (pgs_cons (pg_tupK (K := K) (n := 2) (pgs_cons (pg_name (i := 4) sc_to_square.nd rfl (Or.inl rfl)) (pgs_cons (pg_name (i := 5) sc_to_square.nd rfl (Or.inl rfl)) pgs_nil))) pgs_nil))) (pss_one (ps_asg (pv 3) (pg_sub (pe_ix (ix_listK (K := K)) (pv 2) (pv 4) (fun _ _ => rfl)) (pv 5) set_list))))
      (pss_one (ps_ret (pv 2))))))), ?_⟩
    obtain ⟨KK, EE, hK0, hE, hw⟩ := cW_gen hw
    have S0 := Sep.startG sG
    unfold F_to_square at hw
    refine ⟨_, rfl, _, _, rfl, (SqL.of (S0.bM _ _ q_levels)), _, _, [(16, 4), (64, 8)], [16, 64], rfl, rfl, T.kd_SIZES_BY_COUNT, rfl, _, rfl, ?_⟩
    refine iteN (fun c1322 => ?_) (fun c1322 => ?_)
    · have hw := cW_neg c1322 hw
      exact hE 1 (cW_er hw) _ S0.b0
    · have hw := cW_pos c1322 hw
      obtain ⟨g1323, hw⟩ := cW_grd hw
      refine ⟨_, rfl, _, _, rfl, (SqL.of (S0.bM _ _ q_levels)), _, _, _, [(16, 4), (64, 8)], rfl, rfl, T.kd_SIZES_BY_COUNT, (lookI_at (kvs := [(16, 4), (64, 8)]) g1323), ?_⟩
      have hw := cW_bnd hw
      obtain ⟨g1325, hw⟩ := cW_grd hw
      obtain ⟨K1328, hK1329, hw⟩ := cW_push hw
      refine ⟨_, rfl, _, rfl, g1325.1, g1325.2, fun D1330 n1331 => lc_range (lo := 0) (n := Int.toNat ((dictI [(16, 4), (64, 8)] ((((levels') : (List Int)).length : Int))))) (fun i H' => ∃ (G' : Hp) (acc1333 : (List (List Int))) (vs1334 : List V) (L1332 : List Addr), Same G G' ∧ Sep [] H G G' H' (D1330 :: (L1332 ++ [])) ∧ H' D1330 = some (.lst vs1334) ∧ OwAll G' H' L1332 vs1334 ((acc1333 : (List (List Int))).map (oL oI)) ∧ (∀ b ∈ L1332, H b = none) ∧ (∀ b ∈ L1332, b ≠ D1330) ∧ Same H H' ∧ cW (mapA (List.drop i (rng (0) (Int.toNat ((dictI [(16, 4), (64, 8)] ((((levels') : (List Int)).length : Int))))))) acc1333 (fun x => noEr (F_to_square_c1 ((dictI [(16, 4), (64, 8)] ((((levels') : (List Int)).length : Int)))) x))) K1328 EE) ?_ ?_ ?_⟩
      · generalize g1335 : upd H D1330 _ = H1336
        obtain ⟨e1337, h1338⟩ := gen_new n1331 g1335
        have fr1339 := S0.free n1331
        have S1340 := S0.new n1331 e1337 h1338 fr1339
        exact ⟨_, [], [], [], Same.refl _, (S1340.sub (all_cons (.head _) (all_app (L := []) all_nil all_nil))), h1338, OwAll.nil, all_nil, all_nil, e1337, hw⟩
      · intro i H1341 hi hw
        obtain ⟨G1344, acc1346, vs1347, L1349, eG1345, S1342, h1343, d1348, nb1350, nd1351, eo1352, hw⟩ := hw
        obtain ⟨z1353, hw⟩ := cW_mapA (rng_get hi) hw
        generalize (0 + (i : Int)) = x1354 at hw ⊢
        have hw := cW_noEr hw
        have hw : cW (F_to_square_c1 ((dictI [(16, 4), (64, 8)] ((((levels') : (List Int)).length : Int)))) (x1354)) _ (fun _ => False) := hw
        unfold F_to_square_c1 at hw
        refine ⟨rfl, ?_⟩
        refine tyes_go ?_
        refine ⟨(by show 1 ≤ sizeLine; decide), fun p1356 n1357 => ?_⟩
        generalize g1358 : upd H1341 p1356 _ = H1359
        obtain ⟨e1360, h1361⟩ := gen_new n1357 g1358
        have h1362 : H1359 p1356 = some (.lst (([0] : (List Int)).map V.int)) := h1361
        have fr1363 := S1342.free n1357
        have S1364 := S1342.new n1357 e1360 h1362 fr1363
        obtain ⟨g1365, hw⟩ := cW_grd hw
        refine ⟨_, rfl, _, _, _, rfl, rfl, h1362, g1365.1, g1365.2.1, (rep_lenM g1365.2.2), fun p1366 n1367 => ?_⟩
        generalize g1368 : upd H1359 p1366 _ = H1369
        obtain ⟨e1370, h1371⟩ := gen_new n1367 g1368
        have h1372 : H1369 p1366 = some (.lst ((repL ([0]) ((dictI [(16, 4), (64, 8)] ((((levels') : (List Int)).length : Int)))) : (List Int)).map V.int)) := rep_map h1371
        have fr1373 := S1364.free n1367
        have S1374 := S1364.new n1367 e1370 h1372 fr1373
        have w1375 : OwAll G1344 H1369 L1349 (vs1347) ((acc1346 : (List (List Int))).map (oL oI)) := (OwAll.mono (Same.refl _) (keeps_same e1370) (OwAll.mono (Same.refl _) (keeps_same e1360) d1348))
        have h1376 := (e1370 _ _ (e1360 _ _ h1343))
        refine ⟨_, h1376, (app_len (OwAll.rpA w1375 (encO_L encO_I) S1374.sG) z1353), ?_⟩
        generalize g1377 : upd H1369 D1330 _ = H1378
        obtain ⟨x1379, h1380⟩ := gen_mut g1377
        have S1381 := S1374.mut1 x1379 (.tail _ (.tail _ (.head _))) h1380
        have hw := cW_ok hw
        exact ⟨_, (acc1346 ++ [repL ([0]) ((dictI [(16, 4), (64, 8)] ((((levels') : (List Int)).length : Int))))]), _, (L1349 ++ (p1366 :: ([] : List Addr))), eG1345, (S1381.sub (all_cons (.tail _ (.tail _ (.head _))) (all_app (all_app ((fun b hb => (.tail _ (.tail _ (.tail _ (List.mem_append_left _ hb))))) : ∀ b ∈ L1349, b ∈ (p1366 :: (p1356 :: (D1330 :: (L1349 ++ []))))) (all_cons (.head _) all_nil)) all_nil))), h1380, (OwAll.mono (Same.refl _) (keeps_mut x1379 ((all_app nd1351 (all_cons (ne_of_none (e1360 _ _ h1343) n1367).symm all_nil)) : ∀ b ∈ (L1349 ++ (p1366 :: ([] : List Addr))), b ≠ D1330)) (OwAll.snocM w1375 (Ow.ints h1372) ((fun b hb => (nm_cons ((there_ne (fun b_ hb_ => (S1364.ow b_ (((fun b hb => (.tail _ (.tail _ (List.mem_append_left _ hb)))) : ∀ b ∈ L1349, b ∈ (p1356 :: (D1330 :: (L1349 ++ [])))) b_ hb_)).2.1) n1367) b hb) nm_nil)) : ∀ b ∈ L1349, b ∉ (p1366 :: ([] : List Addr))))), ((all_app nb1350 (all_cons (none_of_same (Same.trans eo1352 e1360) n1367) all_nil)) : ∀ b ∈ (L1349 ++ (p1366 :: ([] : List Addr))), H b = none), ((all_app nd1351 (all_cons (ne_of_none (e1360 _ _ h1343) n1367).symm all_nil)) : ∀ b ∈ (L1349 ++ (p1366 :: ([] : List Addr))), b ≠ D1330), (same_mut (Same.trans (Same.trans eo1352 e1360) e1370) x1379 n1331), hw⟩
      intro H1382 hw
      obtain ⟨G1385, acc1387, vs1388, L1390, eG1386, S1383, h1384, d1389, nb1391, nd1392, eo1393, hw⟩ := hw
      have hw := hK1329 _ (cW_mapA0 (rng_len _ _).symm hw)
      have fr1394 := S0.free n1331
      refine ⟨_, rfl, _, rfl, rfl, rfl, G1385, _, rfl, S1383.sG, cW_call hw (fun v1395 hw v1398 H1396 G1399 e1397 eG1400 sG1401 hn1402 r1403 => ?_) (fun e he H2 e2 => hE e he H2 (Same.trans S1383.b0 e2))⟩
      have S1404 := S1383.step e1397 eG1400 sG1401 hn1402
      obtain ⟨a1405, vs1406, rfl, h1407, d1408⟩ := rp_list r1403
      obtain ⟨K1409, hK1410, hw⟩ := cW_push hw
      refine ⟨_, _, _, _, rfl, .inl ⟨(SqL.of (S1404.bM _ _ q_levels)), (SqL.of (S1404.sG _ _ h1407)), for_zipM (K := K) (a := a_levels) (b := a1405) (xs := (levels' : List Int).map V.int) (ys := vs1406) (min ((levels' : (List Int)).length) ((v1395 : (List (Int × Int))).length)) (zipM_n (by rw [List.length_map]) (by rw [d1408.len, List.length_map])) (fun i σ H' => ∃ (square_1411 : (List (List Int))) (vs1412 : List V) (L1413 : List Addr) (u1414 : Option V) (u1415 : Option V) (u1416 : Option V) (G' : Hp), σ = [some (V.ref a_levels), some (V.int ((dictI [(16, 4), (64, 8)] ((((levels') : (List Int)).length : Int))))), some (V.ref D1330), u1414, u1415, u1416, none] ∧ Same G1399 G' ∧ Sep [] H G G' H' (D1330 :: (L1413 ++ [])) ∧ H' D1330 = some (.lst (vs1412)) ∧ (∀ b ∈ L1413, b ≠ D1330) ∧ OwAll G' H' L1413 (vs1412) ((square_1411 : (List (List Int))).map (oL oI)) ∧ cW (forS (List.drop i (List.zip (levels') (v1395))) square_1411 (fun s x => F_to_square_b2  s x)) K1409 EE) ?_ ?_ ?_ ?_⟩⟩
      · have h1417 := (e1397 _ _ h1384)
        have w1418 : OwAll G1399 H1396 L1390 (vs1388) ((acc1387 : (List (List Int))).map (oL oI)) := (OwAll.mono eG1400 keeps_refl (OwAll.mono (Same.refl _) (keeps_same e1397) d1389))
        exact ⟨(acc1387), (vs1388), L1390, _, _, _, _, rfl, (Same.refl _), (S1404.sub (all_cons (.head _) (all_app ((fun b hb => (.tail _ (List.mem_append_left _ hb))) : ∀ b ∈ L1390, b ∈ (D1330 :: (L1390 ++ []))) all_nil))), h1417, nd1392, w1418, hw⟩
      · intro i σ H1419 hw
        obtain ⟨square_1411, vs1412, L1413, u1414, u1415, u1416, G1424, rfl, eG1425, S1420, h1421, ne1422, w1423, hw⟩ := hw
        exact ⟨(SqL.of (S1420.bM _ _ q_levels)), (SqL.of (S1420.sG _ _ (eG1425 _ _ h1407)))⟩
      · intro i x y T1427 σ H1426 hj hj2 n1428 hw
        obtain ⟨square_1411, vs1412, L1413, u1414, u1415, u1416, G1433, rfl, eG1434, S1429, h1430, ne1431, w1432, hw⟩ := hw
        obtain ⟨x1435, hx1436, rfl⟩ := map_get hj
        obtain ⟨x1437, hx1438, r1439⟩ := RpAll.get (RpAll.mono eG1434 d1408) hj2
        obtain ⟨a1440, v1442, v1443, rfl, h1441, r1444, r1445⟩ := rp_tup2 r1439
        obtain rfl := rp_int r1444
        obtain rfl := rp_int r1445
        generalize g1446 : upd H1426 T1427 _ = H1447
        obtain ⟨e1448, h1449⟩ := gen_new n1428 g1446
        have h1450 : H1447 T1427 = some (.tup [V.int (x1435), V.ref a1440]) := h1449
        have fr1451 := S1429.free n1428
        obtain ⟨G1453, eG1454, hg1455, S1452⟩ := S1429.grow n1428 e1448 h1450 fr1451
        have hw := cW_forS (zip_get hx1436 hx1438) hw
        have hw : cW (F_to_square_b2  (square_1411) ((x1435, x1437))) _ EE := hw
        unfold F_to_square_b2 at hw
        obtain ⟨K1457, hK1458, hw⟩ := cW_name hw
        obtain ⟨g1460, hw⟩ := cW_grd hw
        have w1461 : OwAll G1453 H1447 L1413 (vs1412) ((square_1411 : (List (List Int))).map (oL oI)) := (OwAll.mono eG1454 keeps_refl (OwAll.mono (Same.refl _) (keeps_same e1448) w1432))
        obtain ⟨v1462, L1463, a1464, w1465, hs1466, up1467, gr1468⟩ := OwAll.partM (k := x1437.1) w1461 g1460
        have h1469 := (e1448 _ _ h1430)
        obtain ⟨b1470, rfl, rfl, h1471⟩ := Ow.toInts w1465
        obtain ⟨g1472, hw⟩ := cW_grd hw
        refine ⟨_, _, rfl, (SqT.of (S1452.sG _ _ hg1455)), rfl, _, _, rfl, _, _, rfl, _, _, rfl, (SqT.of (S1452.sG _ _ (eG1454 _ _ h1441))), rfl, _, _, rfl, _, _, rfl, rfl, rfl, _, rfl, _, rfl, _, rfl, _, _, _, _, rfl, rfl, (SqL.of h1469), a1464, _, rfl, _, _, _, _, rfl, rfl, h1471, (ixN_map g1472), ?_⟩
        generalize g1473 : upd H1447 b1470 _ = H1474
        obtain ⟨x1475, h1476⟩ := gen_mut g1473
        have h1477 : H1474 b1470 = some (.lst ((setL ((itD (square_1411) (x1437.1))) (x1437.2) (x1435) : (List Int)).map V.int)) := set_map h1476
        have S1478 := S1452.mut1 x1475 ((((fun b hb => (.tail _ (List.mem_append_left _ hb))) : ∀ b ∈ L1413, b ∈ (D1330 :: (L1413 ++ []))) : ∀ b ∈ L1413, b ∈ (D1330 :: (L1413 ++ []))) _ (hs1466 _ List.mem_cons_self)) h1477
        have w1479 : OwAll G1453 H1474 L1413 (vs1412) ((setL (square_1411) (x1437.1) (setL ((itD (square_1411) (x1437.1))) (x1437.2) (x1435)) : (List (List Int))).map (oL oI)) := upd_tree up1467 x1475 List.mem_cons_self (Ow.ints h1477)
        have hw := cW_bnd hw
        have hw := cW_ok hw
        have hw := hK1458 _ hw
        have h1481 := (x1475 _ _ h1469 (ne1431 _ (hs1466 _ List.mem_cons_self)).symm)
        exact ⟨(setL (square_1411) (x1437.1) (setL ((itD (square_1411) (x1437.1))) (x1437.2) (x1435))), (vs1412), L1413, _, _, _, _, rfl, (Same.trans eG1434 eG1454), (S1478.sub (all_cons (.head _) (all_app ((fun b hb => (.tail _ (List.mem_append_left _ hb))) : ∀ b ∈ L1413, b ∈ (D1330 :: (L1413 ++ []))) all_nil))), h1481, ne1431, w1479, hw⟩
      · intro σ H1482 hw
        obtain ⟨square_1411, vs1412, L1413, u1414, u1415, u1416, G1487, rfl, eG1488, S1483, h1484, ne1485, w1486, hw⟩ := hw
        have hw := hK1410 _ (cW_forS0 zipM_len hw)
        have hw : cW (F_to_square_r2  (square_1411)) _ EE := hw
        unfold F_to_square_r2 at hw
        refine ⟨_, rfl, ?_⟩
        have hw := cW_ok hw
        exact hK0 _ hw _ _ _ _ _ fr1394 ((fun b hb => Sep.h0 S1483 (((fun b hb => (.tail _ (List.mem_append_left _ hb))) : ∀ b ∈ L1413, b ∈ (D1330 :: (L1413 ++ []))) b hb) nm_nil) : ∀ b ∈ L1413, H b = none) (ne1485 : ∀ b ∈ L1413, b ≠ D1330) S1483.b0 S1483.g0 S1483.sG S1483.gn (S1483.ow _ (.head _)).1 ((fun b hb => (S1483.ow b (((fun b hb => (.tail _ (List.mem_append_left _ hb))) : ∀ b ∈ L1413, b ∈ (D1330 :: (L1413 ++ []))) b hb)).1) : ∀ b ∈ L1413, G1487 b = none) h1484 w1486

abbrev N_residue_of : List Str := ["levels", "quantizer"]
theorem sc_residue_of : FnScope N_residue_of ["levels", "quantizer"] (defScope s_residue_of) := ⟨rfl, rfl, rfl, by decide +kernel, rfl, by decide +kernel, by decide +kernel⟩
theorem ok_residue_of (D : DefX K mg "residue_of" s_residue_of ["levels", "quantizer"] pats_residue_of) (T : Txt K mg AD) (c_inverse_square : CalX P w K mg base 5 "inverse_square" (sp_inverse_square K AD) pats_inverse_square) (c_restore_square : CalX P w K mg base 2 "restore_square" (sp_restore_square K AD) pats_restore_square) (c_to_square : CalX P w K mg base 3 "to_square" (sp_to_square K AD) pats_to_square) : CalX P w K mg base 6 "residue_of" (sp_residue_of K AD) pats_residue_of := by
  refine D.ok sc_residue_of (fun vs H Q E h => ?_) (fun f cdv A_ outer s H vs Q E hr h => ?_)
  · obtain ⟨G, a_levels, levels', quantizer', rfl, _⟩ := h
    rfl
  · obtain ⟨G, a_levels, levels', quantizer', rfl, sG, q_levels, hw⟩ := h
    refine ⟨_, (pss_one (ps_ret (vx_callX c_inverse_square pat_inverse_square_0 (.head _) hr (by decide) (takes_of rfl rfl rfl rfl) rfl (pa_cons (vx_callX c_restore_square pat_restore_square_0 (.head _) hr (by decide) (takes_of rfl rfl rfl rfl) rfl (pa_cons (vx_callX c_to_square pat_to_square_0 (.head _) hr (by decide) (takes_of rfl rfl rfl rfl) rfl (pa_cons (pv 0) pa_nil) pk_nil) (pa_cons (pv 1) pa_nil)) pk_nil) pa_nil) pk_nil))), ?_⟩
    obtain ⟨KK, EE, hK0, hE, hw⟩ := cW_gen hw
    have S0 := Sep.startG sG
    unfold F_residue_of at hw
    refine ⟨_, rfl, rfl, rfl, G, _, _, rfl, S0.sG, (hide_nil (S0.bM _ _ q_levels)), cW_call hw (fun v1490 hw H1491 a1493 vs1494 L1495 G1496 n1497 nb1498 nd1499 e1492 eG1500 sG1501 hn1502 ga1503 gL1504 h1505 w1506 => ?_) (fun e he H2 e2 => hE e he H2 (Same.trans S0.b0 e2))⟩
    have fr1507 := S0.free n1497
    have S1508 : Sep _ _ _ _ H1491 (a1493 :: (L1495 ++ [])) := Sep.steptree S0 e1492 eG1500 sG1501 hn1502 (a1493 :: L1495) (all_cons ⟨n1497, ga1503, some_ne h1505⟩ (fun b hb => ⟨nb1498 b hb, gL1504 b hb, OwAll.there w1506 b hb⟩))
    refine ⟨_, rfl, rfl, rfl, G1496, _, _, _, rfl, S1508.sG, (Rp.hide_nil (rp_mk_list h1505 (OwAll.rpA w1506 (encO_L encO_I) S1508.sG))), cW_call hw (fun v1509 hw H1510 a1512 vs1513 L1514 G1515 n1516 nb1517 nd1518 e1511 eG1519 sG1520 hn1521 ga1522 gL1523 h1524 w1525 => ?_) (fun e he H2 e2 => hE e he H2 (Same.trans S1508.b0 e2))⟩
    have fr1526 := S1508.free n1516
    have S1527 : Sep _ _ _ _ H1510 (a1512 :: (L1514 ++ (a1493 :: (L1495 ++ [])))) := Sep.steptree S1508 e1511 eG1519 sG1520 hn1521 (a1512 :: L1514) (all_cons ⟨n1516, ga1522, some_ne h1524⟩ (fun b hb => ⟨nb1517 b hb, gL1523 b hb, OwAll.there w1525 b hb⟩))
    refine ⟨rfl, rfl, G1515, _, _, rfl, S1527.sG, (Rp.hide_nil (rp_mk_list h1524 (OwAll.rpA w1525 (encO_L encO_I) S1527.sG))), cW_call hw (fun v1528 hw H1529 a1531 vs1532 L1533 G1534 n1535 nb1536 nd1537 e1530 eG1538 sG1539 hn1540 ga1541 gL1542 h1543 w1544 => ?_) (fun e he H2 e2 => hE e he H2 (Same.trans S1527.b0 e2))⟩
    have fr1545 := S1527.free n1535
    have S1546 : Sep _ _ _ _ H1529 (a1531 :: (L1533 ++ (a1512 :: (L1514 ++ (a1493 :: (L1495 ++ [])))))) := Sep.steptree S1527 e1530 eG1538 sG1539 hn1540 (a1531 :: L1533) (all_cons ⟨n1535, ga1541, some_ne h1543⟩ (fun b hb => ⟨nb1536 b hb, gL1542 b hb, OwAll.there w1544 b hb⟩))
    have hw := cW_ok hw
    exact hK0 _ hw _ _ _ _ _ fr1545 ((fun b hb => Sep.h0 S1546 (((fun b hb => (.tail _ (List.mem_append_left _ hb))) : ∀ b ∈ L1533, b ∈ (a1531 :: (L1533 ++ (a1512 :: (L1514 ++ (a1493 :: (L1495 ++ []))))))) b hb) nm_nil) : ∀ b ∈ L1533, H b = none) (nd1537 : ∀ b ∈ L1533, b ≠ a1531) S1546.b0 S1546.g0 S1546.sG S1546.gn (S1546.ow _ (.head _)).1 ((fun b hb => (S1546.ow b (((fun b hb => (.tail _ (List.mem_append_left _ hb))) : ∀ b ∈ L1533, b ∈ (a1531 :: (L1533 ++ (a1512 :: (L1514 ++ (a1493 :: (L1495 ++ []))))))) b hb)).1) : ∀ b ∈ L1533, G1534 b = none) h1543 w1544

abbrev N_split_pair : List Str := ["first", "second"]
theorem sc_split_pair : FnScope N_split_pair ["first", "second"] (defScope s_split_pair) := ⟨rfl, rfl, rfl, by decide +kernel, rfl, by decide +kernel, by decide +kernel⟩
theorem ok_split_pair (D : DefX K mg "split_pair" s_split_pair ["first", "second"] pats_split_pair) (T : Txt K mg AD)  : CalX P w K mg base 1 "split_pair" (sp_split_pair K AD) pats_split_pair := by
  refine D.ok sc_split_pair (fun vs H Q E h => ?_) (fun f cdv A_ outer s H vs Q E hr h => ?_)
  · obtain ⟨G, first', second', rfl, _⟩ := h
    rfl
  · obtain ⟨G, first', second', rfl, sG, hw⟩ := h
    refine ⟨_, (pss_one (ps_ret (pe_tup (pa_cons (pe_op op_shr (pe_op op_add (pv 0) (pv 1)) pe_int) (pa_cons (pe_op op_sub (pv 0) (pv 1)) pa_nil))))), ?_⟩
    obtain ⟨KK, EE, hK0, hE, hw⟩ := cW_gen hw
    have S0 := Sep.startG sG
    unfold F_split_pair at hw
    refine ⟨_, rfl, _, rfl, _, _, rfl, rfl, _, _, rfl, rfl, (show (0 : Int) ≤ 1 by decide), _, rfl, _, rfl, _, _, rfl, rfl, (by show 2 ≤ sizeLine; decide), fun p1547 n1548 => ?_⟩
    generalize g1549 : upd H p1547 _ = H1550
    obtain ⟨e1551, h1552⟩ := gen_new n1548 g1549
    have h1553 : H1550 p1547 = some (.tup [V.int (((first' + second') / 2)), V.int ((first' - second'))]) := h1552
    have fr1554 := S0.free n1548
    obtain ⟨G1556, eG1557, hg1558, S1555⟩ := S0.grow n1548 e1551 h1553 fr1554
    have hw := cW_ok hw
    exact hK0 _ hw _ _ _ S1555.b0 S1555.g0 S1555.sG S1555.gn (rp_mk2 hg1558 (.int _) (.int _))

abbrev N_turn_pair : List Str := ["first", "second", "outer", "inner"]
theorem sc_turn_pair : FnScope N_turn_pair ["first", "second", "outer", "inner"] (defScope s_turn_pair) := ⟨rfl, rfl, rfl, by decide +kernel, rfl, by decide +kernel, by decide +kernel⟩
theorem ok_turn_pair (D : DefX K mg "turn_pair" s_turn_pair ["first", "second", "outer", "inner"] pats_turn_pair) (T : Txt K mg AD)  : CalX P w K mg base 1 "turn_pair" (sp_turn_pair K AD) pats_turn_pair := by
  refine D.ok sc_turn_pair (fun vs H Q E h => ?_) (fun f cdv A_ outer s H vs Q E hr h => ?_)
  · obtain ⟨G, first', second', outer', inner', rfl, _⟩ := h
    rfl
  · obtain ⟨G, first', second', outer', inner', rfl, sG, hw⟩ := h
    refine ⟨_, (pss_cons (ps_aug (i := 1) sc_turn_pair.nd rfl (Or.inl rfl) (pe_op op_shr (pe_op op_add (pe_op op_mul (pv 2) (pv 0)) pe_int) pe_int) (pip iop_add))
      (pss_cons (ps_aug (i := 0) sc_turn_pair.nd rfl (Or.inl rfl) (pe_op op_shr (pe_op op_add (pe_op op_mul (pv 3) (pv 1)) pe_int) pe_int) (pip iop_sub))
      (pss_cons (ps_aug (i := 1) sc_turn_pair.nd rfl (Or.inl rfl) (pe_op op_shr (pe_op op_add (pe_op op_mul (pv 2) (pv 0)) pe_int) pe_int) (pip iop_add))
      (pss_one (ps_ret (pe_tup (pa_cons (pv 0) (pa_cons (pv 1) pa_nil)))))))), ?_⟩
    obtain ⟨KK, EE, hK0, hE, hw⟩ := cW_gen hw
    have S0 := Sep.startG sG
    unfold F_turn_pair at hw
    obtain ⟨g1559, hw⟩ := cW_grd hw
    refine ⟨_, rfl, _, rfl, _, rfl, _, _, rfl, rfl, g1559, _, _, rfl, rfl, _, _, rfl, rfl, (show (0 : Int) ≤ 5 by decide), _, _, rfl, rfl, ?_⟩
    have hw := cW_bnd hw
    obtain ⟨g1561, hw⟩ := cW_grd hw
    refine ⟨_, rfl, _, rfl, _, rfl, _, _, rfl, rfl, g1561, _, _, rfl, rfl, _, _, rfl, rfl, (show (0 : Int) ≤ 5 by decide), _, _, rfl, rfl, ?_⟩
    have hw := cW_bnd hw
    obtain ⟨g1563, hw⟩ := cW_grd hw
    refine ⟨_, rfl, _, rfl, _, rfl, _, _, rfl, rfl, g1563, _, _, rfl, rfl, _, _, rfl, rfl, (show (0 : Int) ≤ 5 by decide), _, _, rfl, rfl, ?_⟩
    have hw := cW_bnd hw
    refine ⟨_, rfl, _, rfl, (by show 2 ≤ sizeLine; decide), fun p1565 n1566 => ?_⟩
    generalize g1567 : upd H p1565 _ = H1568
    obtain ⟨e1569, h1570⟩ := gen_new n1566 g1567
    have h1571 : H1568 p1565 = some (.tup [V.int ((first' - (((inner' * (second' + (((outer' * first') + 16) / 32))) + 16) / 32))), V.int (((second' + (((outer' * first') + 16) / 32)) + (((outer' * (first' - (((inner' * (second' + (((outer' * first') + 16) / 32))) + 16) / 32))) + 16) / 32)))]) := h1570
    have fr1572 := S0.free n1566
    obtain ⟨G1574, eG1575, hg1576, S1573⟩ := S0.grow n1566 e1569 h1571 fr1572
    have hw := cW_ok hw
    exact hK0 _ hw _ _ _ S1573.b0 S1573.g0 S1573.sG S1573.gn (rp_mk2 hg1576 (.int _) (.int _))

abbrev N__forward_four : List Str := ["values", "x0", "x1", "x2", "x3", "l0", "h0", "l1", "h1", "c0", "c2", "c1", "c3"]
theorem sc__forward_four : FnScope N__forward_four ["values"] (defScope s__forward_four) := ⟨rfl, rfl, rfl, by decide +kernel, rfl, by decide +kernel, by decide +kernel⟩
theorem ok__forward_four (D : DefX K mg "_forward_four" s__forward_four ["values"] pats__forward_four) (T : Txt K mg AD) (c_split_pair : CalX P w K mg base 1 "split_pair" (sp_split_pair K AD) pats_split_pair) (c_turn_pair : CalX P w K mg base 1 "turn_pair" (sp_turn_pair K AD) pats_turn_pair) : CalX P w K mg base 2 "_forward_four" (sp__forward_four K AD) pats__forward_four := by
  refine D.ok sc__forward_four (fun vs H Q E h => ?_) (fun f cdv A_ outer s H vs Q E hr h => ?_)
  · obtain ⟨G, a_values, values', rfl, _⟩ := h
    rfl
  · obtain ⟨G, a_values, values', rfl, sG, q_values, hw⟩ := h
    refine ⟨_, (C8.pss_cut (ps_asg (pv 0) (pg_seqK (K := K) (n := 4) (pgs_cons (pg_name (i := 1) sc__forward_four.nd rfl (Or.inl rfl)) (pgs_cons (pg_name (i := 2) sc__forward_four.nd rfl (Or.inl rfl)) (pgs_cons (pg_name (i := 3) sc__forward_four.nd rfl (Or.inl rfl)) (pgs_cons (pg_name (i := 4) sc__forward_four.nd rfl (Or.inl rfl)) pgs_nil))))))
      (C8.pss_cut (ps_asg (vx_callX c_split_pair pat_split_pair_0 (.head _) hr (by decide) (takes_of rfl rfl rfl rfl) rfl (pa_cons (pv 1) (pa_cons (pv 4) pa_nil)) pk_nil) (pg_tupK (K := K) (n := 2) (pgs_cons (pg_name (i := 5) sc__forward_four.nd rfl (Or.inl rfl)) (pgs_cons (pg_name (i := 6) sc__forward_four.nd rfl (Or.inl rfl)) pgs_nil))))
      (C8.pss_cut (ps_asg (vx_callX c_split_pair pat_split_pair_0 (.head _) hr (by decide) (takes_of rfl rfl rfl rfl) rfl (pa_cons (pv 2) (pa_cons (pv 3) pa_nil)) pk_nil) (pg_tupK (K := K) (n := 2) (pgs_cons (pg_name (i := 7) sc__forward_four.nd rfl (Or.inl rfl)) (pgs_cons (pg_name (i := 8) sc__forward_four.nd rfl (Or.inl rfl)) pgs_nil))))
      (C8.pss_cut (ps_asg (vx_callX c_split_pair pat_split_pair_0 (.head _) hr (by decide) (takes_of rfl rfl rfl rfl) rfl (pa_cons (pv 5) (pa_cons (pv 7) pa_nil)) pk_nil) (pg_tupK (K := K) (n := 2) (pgs_cons (pg_name (i := 9) sc__forward_four.nd rfl (Or.inl rfl)) (pgs_cons (pg_name (i := 10) sc__forward_four.nd rfl (Or.inl rfl)) pgs_nil))))
      (C8.pss_cut (ps_asg (vx_callX c_turn_pair pat_turn_pair_0 (.head _) hr (by decide) (takes_of rfl rfl rfl rfl) rfl (pa_cons (pv 6) (pa_cons (pv 8) pa_nil)) (pk_cons pe_int (pk_cons pe_int pk_nil))) (pg_tupK (K := K) (n := 2) (pgs_cons (pg_name (i := 11) sc__forward_four.nd rfl (Or.inl rfl)) (pgs_cons (pg_name (i := 12) sc__forward_four.nd rfl (Or.inl rfl)) pgs_nil))))
      (pss_one (ps_ret (pe_lst (pa_cons (pv 9) (pa_cons (pv 11) (pa_cons (pv 10) (pa_cons (pv 12) pa_nil)))))))))))), ?_⟩
    obtain ⟨KK, EE, hK0, hE, hw⟩ := cW_gen hw
    have S0 := Sep.startG sG
    unfold F__forward_four at hw
    refine ⟨fun σ H' => ∃ (x0_1581 : Int) (x1_1582 : Int) (x2_1583 : Int) (x3_1584 : Int) (G' : Hp), σ = [some (V.ref a_values), some (V.int x0_1581), some (V.int x1_1582), some (V.int x2_1583), some (V.int x3_1584), none, none, none, none, none, none, none, none] ∧ Same G G' ∧ Sep [] H G G' H' [] ∧ cW (F__forward_four_k1  x0_1581 x1_1582 x2_1583 x3_1584) KK EE, ?_, ?_⟩
    · obtain ⟨K1585, hK1586, hw⟩ := cW_push hw
      obtain ⟨g1587, hw⟩ := cW_grd hw
      refine ⟨_, rfl, _, [V.int ((itD (values') 0)), V.int ((itD (values') 1)), V.int ((itD (values') 2)), V.int ((itD (values') 3))], rfl, (SqL.cast (SqL.of (S0.bM _ _ q_values)) (unp4 g1587)), rfl, _, _, rfl, _, _, rfl, _, _, rfl, _, _, rfl, rfl, ?_⟩
      have hw := cW_bnd hw
      have hw := cW_bnd hw
      have hw := cW_bnd hw
      have hw := cW_bnd hw
      have hw := cW_ok hw
      have hw := hK1586 _ hw
      exact ⟨((itD (values') 0)), ((itD (values') 1)), ((itD (values') 2)), ((itD (values') 3)), _, rfl, (Same.refl _), S0, hw⟩
    · intro σ H1592 hw
      obtain ⟨x0_1581, x1_1582, x2_1583, x3_1584, G1594, rfl, eG1595, S1593, hw⟩ := hw
      unfold F__forward_four_k1 at hw
      refine ⟨fun σ H' => ∃ (l0_1600 : Int) (h0_1601 : Int) (G' : Hp), σ = [some (V.ref a_values), some (V.int (x0_1581)), some (V.int (x1_1582)), some (V.int (x2_1583)), some (V.int (x3_1584)), some (V.int l0_1600), some (V.int h0_1601), none, none, none, none, none, none] ∧ Same G1594 G' ∧ Sep [] H G G' H' [] ∧ cW (F__forward_four_k2 (x1_1582) (x2_1583) l0_1600 h0_1601) KK EE, ?_, ?_⟩
      · obtain ⟨K1602, hK1603, hw⟩ := cW_push hw
        refine ⟨_, rfl, _, rfl, rfl, rfl, G1594, _, _, rfl, S1593.sG, cW_call hw (fun v1604 hw v1607 H1605 G1608 e1606 eG1609 sG1610 hn1611 r1612 => ?_) (fun e he H2 e2 => hE e he H2 (Same.trans S1593.b0 e2))⟩
        have S1613 := S1593.step e1606 eG1609 sG1610 hn1611
        obtain ⟨a1614, v1616, v1617, rfl, h1615, r1618, r1619⟩ := rp_tup2 r1612
        obtain rfl := rp_int r1618
        obtain rfl := rp_int r1619
        refine ⟨_, _, rfl, (SqT.of (S1613.sG _ _ h1615)), rfl, _, _, rfl, _, _, rfl, rfl, ?_⟩
        have hw := cW_ok hw
        have hw := hK1603 _ hw
        exact ⟨(v1604.1), (v1604.2), _, rfl, eG1609, S1613, hw⟩
      · intro σ H1620 hw
        obtain ⟨l0_1600, h0_1601, G1622, rfl, eG1623, S1621, hw⟩ := hw
        unfold F__forward_four_k2 at hw
        refine ⟨fun σ H' => ∃ (l1_1628 : Int) (h1_1629 : Int) (G' : Hp), σ = [some (V.ref a_values), some (V.int (x0_1581)), some (V.int (x1_1582)), some (V.int (x2_1583)), some (V.int (x3_1584)), some (V.int (l0_1600)), some (V.int (h0_1601)), some (V.int l1_1628), some (V.int h1_1629), none, none, none, none] ∧ Same G1622 G' ∧ Sep [] H G G' H' [] ∧ cW (F__forward_four_k3 (l0_1600) (h0_1601) l1_1628 h1_1629) KK EE, ?_, ?_⟩
        · obtain ⟨K1630, hK1631, hw⟩ := cW_push hw
          refine ⟨_, rfl, _, rfl, rfl, rfl, G1622, _, _, rfl, S1621.sG, cW_call hw (fun v1632 hw v1635 H1633 G1636 e1634 eG1637 sG1638 hn1639 r1640 => ?_) (fun e he H2 e2 => hE e he H2 (Same.trans S1621.b0 e2))⟩
          have S1641 := S1621.step e1634 eG1637 sG1638 hn1639
          obtain ⟨a1642, v1644, v1645, rfl, h1643, r1646, r1647⟩ := rp_tup2 r1640
          obtain rfl := rp_int r1646
          obtain rfl := rp_int r1647
          refine ⟨_, _, rfl, (SqT.of (S1641.sG _ _ h1643)), rfl, _, _, rfl, _, _, rfl, rfl, ?_⟩
          have hw := cW_ok hw
          have hw := hK1631 _ hw
          exact ⟨(v1632.1), (v1632.2), _, rfl, eG1637, S1641, hw⟩
        · intro σ H1648 hw
          obtain ⟨l1_1628, h1_1629, G1650, rfl, eG1651, S1649, hw⟩ := hw
          unfold F__forward_four_k3 at hw
          refine ⟨fun σ H' => ∃ (c0_1656 : Int) (c2_1657 : Int) (G' : Hp), σ = [some (V.ref a_values), some (V.int (x0_1581)), some (V.int (x1_1582)), some (V.int (x2_1583)), some (V.int (x3_1584)), some (V.int (l0_1600)), some (V.int (h0_1601)), some (V.int (l1_1628)), some (V.int (h1_1629)), some (V.int c0_1656), some (V.int c2_1657), none, none] ∧ Same G1650 G' ∧ Sep [] H G G' H' [] ∧ cW (F__forward_four_k4 (h0_1601) (h1_1629) c0_1656 c2_1657) KK EE, ?_, ?_⟩
          · obtain ⟨K1658, hK1659, hw⟩ := cW_push hw
            refine ⟨_, rfl, _, rfl, rfl, rfl, G1650, _, _, rfl, S1649.sG, cW_call hw (fun v1660 hw v1663 H1661 G1664 e1662 eG1665 sG1666 hn1667 r1668 => ?_) (fun e he H2 e2 => hE e he H2 (Same.trans S1649.b0 e2))⟩
            have S1669 := S1649.step e1662 eG1665 sG1666 hn1667
            obtain ⟨a1670, v1672, v1673, rfl, h1671, r1674, r1675⟩ := rp_tup2 r1668
            obtain rfl := rp_int r1674
            obtain rfl := rp_int r1675
            refine ⟨_, _, rfl, (SqT.of (S1669.sG _ _ h1671)), rfl, _, _, rfl, _, _, rfl, rfl, ?_⟩
            have hw := cW_ok hw
            have hw := hK1659 _ hw
            exact ⟨(v1660.1), (v1660.2), _, rfl, eG1665, S1669, hw⟩
          · intro σ H1676 hw
            obtain ⟨c0_1656, c2_1657, G1678, rfl, eG1679, S1677, hw⟩ := hw
            unfold F__forward_four_k4 at hw
            refine ⟨fun σ H' => ∃ (c1_1684 : Int) (c3_1685 : Int) (G' : Hp), σ = [some (V.ref a_values), some (V.int (x0_1581)), some (V.int (x1_1582)), some (V.int (x2_1583)), some (V.int (x3_1584)), some (V.int (l0_1600)), some (V.int (h0_1601)), some (V.int (l1_1628)), some (V.int (h1_1629)), some (V.int (c0_1656)), some (V.int (c2_1657)), some (V.int c1_1684), some (V.int c3_1685)] ∧ Same G1678 G' ∧ Sep [] H G G' H' [] ∧ cW (F__forward_four_k5 (c0_1656) (c2_1657) c1_1684 c3_1685) KK EE, ?_, ?_⟩
            · obtain ⟨K1686, hK1687, hw⟩ := cW_push hw
              refine ⟨_, rfl, _, rfl, rfl, rfl, G1678, _, _, _, _, rfl, S1677.sG, cW_call hw (fun v1688 hw v1691 H1689 G1692 e1690 eG1693 sG1694 hn1695 r1696 => ?_) (fun e he H2 e2 => hE e he H2 (Same.trans S1677.b0 e2))⟩
              have S1697 := S1677.step e1690 eG1693 sG1694 hn1695
              obtain ⟨a1698, v1700, v1701, rfl, h1699, r1702, r1703⟩ := rp_tup2 r1696
              obtain rfl := rp_int r1702
              obtain rfl := rp_int r1703
              refine ⟨_, _, rfl, (SqT.of (S1697.sG _ _ h1699)), rfl, _, _, rfl, _, _, rfl, rfl, ?_⟩
              have hw := cW_ok hw
              have hw := hK1687 _ hw
              exact ⟨(v1688.1), (v1688.2), _, rfl, eG1693, S1697, hw⟩
            · intro σ H1704 hw
              obtain ⟨c1_1684, c3_1685, G1706, rfl, eG1707, S1705, hw⟩ := hw
              unfold F__forward_four_k5 at hw
              refine ⟨_, rfl, _, rfl, _, rfl, _, rfl, (by show 4 ≤ sizeLine; decide), fun p1708 n1709 => ?_⟩
              generalize g1710 : upd H1704 p1708 _ = H1711
              obtain ⟨e1712, h1713⟩ := gen_new n1709 g1710
              have h1714 : H1711 p1708 = some (.lst (([c0_1656, c1_1684, c2_1657, c3_1685] : (List Int)).map V.int)) := h1713
              have fr1715 := S1705.free n1709
              have S1716 := S1705.new n1709 e1712 h1714 fr1715
              have hw := cW_ok hw
              exact hK0 _ hw _ _ fr1715 S1716.b0 h1714

abbrev N__forward_eight : List Str := ["values", "pairs", "h0", "h1", "h2", "h3", "e0", "e1", "e2", "e3", "d0", "d3", "d1", "d2", "f0", "f1", "f2", "f3", "k", "_", "high", "low"]
theorem sc__forward_eight : FnScope N__forward_eight ["values"] (defScope s__forward_eight) := ⟨rfl, rfl, rfl, by decide +kernel, rfl, by decide +kernel, by decide +kernel⟩
theorem ok__forward_eight (D : DefX K mg "_forward_eight" s__forward_eight ["values"] pats__forward_eight) (T : Txt K mg AD) (c_split_pair : CalX P w K mg base 1 "split_pair" (sp_split_pair K AD) pats_split_pair) (c__forward_four : CalX P w K mg base 2 "_forward_four" (sp__forward_four K AD) pats__forward_four) (c_turn_pair : CalX P w K mg base 1 "turn_pair" (sp_turn_pair K AD) pats_turn_pair) : CalX P w K mg base 3 "_forward_eight" (sp__forward_eight K AD) pats__forward_eight := by
  refine D.ok sc__forward_eight (fun vs H Q E h => ?_) (fun f cdv A_ outer s H vs Q E hr h => ?_)
  · obtain ⟨G, a_values, values', rfl, _⟩ := h
    rfl
  · obtain ⟨G, a_values, values', rfl, sG, q_values, hw⟩ := h
    refine ⟨_, (C8.pss_cut (ps_setLc (i := 1) (y := "pairs") rfl sc__forward_eight.nd rfl rfl (sw_true rfl rfl rfl (by decide +kernel)) (own := [("k", 18)]) (g := gName 18) (pi_range1 rfl T.b_range (pa_cons pe_int pa_nil)) (blkOk_by (own := [("k", 18)]) (N := N__forward_eight) (sc := defScope s__forward_eight) (by decide +kernel)) (fun _ _ _ _ _ => (pg_name (i := 18) sc__forward_eight.nd rfl (Or.inl rfl))) (fun _ _ _ _ _ => pts_nil) (fun _ _ _ _ _ => (vx_callX c_split_pair pat_split_pair_0 (.head _) hr (by decide) takes0 rfl (pa_cons (pe_ix (ix_listK (K := K)) (pv 0) (pv 18) (fun _ _ => rfl)) (pa_cons (pe_ix (ix_listK (K := K)) (pv 0) (pe_op op_sub pe_int (pv 18)) (fun _ _ => rfl)) pa_nil)) pk_nil)))
      (C8.pss_cut (ps_asg (pe_lc (own := [("_", 19), ("high", 20)]) (g := gTup K 2 (gCons (gName 19) (gCons (gName 20) gNil))) (by rfl) sc__forward_eight.nd (pi_listK (K := K) (pv 1)) (blkOk_by (own := [("_", 19), ("high", 20)]) (N := N__forward_eight) (sc := defScope s__forward_eight) (by decide +kernel)) (fun _ _ _ _ _ => (pg_tupK (K := K) (n := 2) (pgs_cons (pg_name (i := 19) sc__forward_eight.nd rfl (Or.inl rfl)) (pgs_cons (pg_name (i := 20) sc__forward_eight.nd rfl (Or.inl rfl)) pgs_nil)))) (fun _ _ _ _ _ => pts_nil) (fun _ _ _ _ _ => (pv 20))) (pg_seqK (K := K) (n := 4) (pgs_cons (pg_name (i := 2) sc__forward_eight.nd rfl (Or.inl rfl)) (pgs_cons (pg_name (i := 3) sc__forward_eight.nd rfl (Or.inl rfl)) (pgs_cons (pg_name (i := 4) sc__forward_eight.nd rfl (Or.inl rfl)) (pgs_cons (pg_name (i := 5) sc__forward_eight.nd rfl (Or.inl rfl)) pgs_nil))))))
      (C8.pss_cut (ps_asg (vx_callX c__forward_four pat__forward_four_0 (.head _) hr (by decide) (takes_of rfl rfl rfl rfl) rfl (pa_cons (pe_lc (own := [("low", 21), ("_", 19)]) (g := gTup K 2 (gCons (gName 21) (gCons (gName 19) gNil))) (by rfl) sc__forward_eight.nd (pi_listK (K := K) (pv 1)) (blkOk_by (own := [("low", 21), ("_", 19)]) (N := N__forward_eight) (sc := defScope s__forward_eight) (by decide +kernel)) (fun _ _ _ _ _ => (pg_tupK (K := K) (n := 2) (pgs_cons (pg_name (i := 21) sc__forward_eight.nd rfl (Or.inl rfl)) (pgs_cons (pg_name (i := 19) sc__forward_eight.nd rfl (Or.inl rfl)) pgs_nil)))) (fun _ _ _ _ _ => pts_nil) (fun _ _ _ _ _ => (pv 21))) pa_nil) pk_nil) (pg_seqK (K := K) (n := 4) (pgs_cons (pg_name (i := 6) sc__forward_eight.nd rfl (Or.inl rfl)) (pgs_cons (pg_name (i := 7) sc__forward_eight.nd rfl (Or.inl rfl)) (pgs_cons (pg_name (i := 8) sc__forward_eight.nd rfl (Or.inl rfl)) (pgs_cons (pg_name (i := 9) sc__forward_eight.nd rfl (Or.inl rfl)) pgs_nil))))))
      (C8.pss_cut (ps_asg (vx_callX c_turn_pair pat_turn_pair_0 (.head _) hr (by decide) (takes_of rfl rfl rfl rfl) rfl (pa_cons (pv 2) (pa_cons (pv 5) pa_nil)) (pk_cons pe_int (pk_cons pe_int pk_nil))) (pg_tupK (K := K) (n := 2) (pgs_cons (pg_name (i := 10) sc__forward_eight.nd rfl (Or.inl rfl)) (pgs_cons (pg_name (i := 11) sc__forward_eight.nd rfl (Or.inl rfl)) pgs_nil))))
      (C8.pss_cut (ps_asg (vx_callX c_turn_pair pat_turn_pair_0 (.head _) hr (by decide) (takes_of rfl rfl rfl rfl) rfl (pa_cons (pv 3) (pa_cons (pv 4) pa_nil)) (pk_cons pe_int (pk_cons pe_int pk_nil))) (pg_tupK (K := K) (n := 2) (pgs_cons (pg_name (i := 12) sc__forward_eight.nd rfl (Or.inl rfl)) (pgs_cons (pg_name (i := 13) sc__forward_eight.nd rfl (Or.inl rfl)) pgs_nil))))
      (C8.pss_cut (ps_asg (vx_callX c_split_pair pat_split_pair_0 (.head _) hr (by decide) (takes_of rfl rfl rfl rfl) rfl (pa_cons (pv 10) (pa_cons (pv 12) pa_nil)) pk_nil) (pg_tupK (K := K) (n := 2) (pgs_cons (pg_name (i := 14) sc__forward_eight.nd rfl (Or.inl rfl)) (pgs_cons (pg_name (i := 15) sc__forward_eight.nd rfl (Or.inl rfl)) pgs_nil))))
      (C8.pss_cut (ps_asg (vx_callX c_split_pair pat_split_pair_0 (.head _) hr (by decide) (takes_of rfl rfl rfl rfl) rfl (pa_cons (pv 13) (pa_cons (pv 11) pa_nil)) pk_nil) (pg_tupK (K := K) (n := 2) (pgs_cons (pg_name (i := 16) sc__forward_eight.nd rfl (Or.inl rfl)) (pgs_cons (pg_name (i := 17) sc__forward_eight.nd rfl (Or.inl rfl)) pgs_nil))))
      (pss_one (ps_ret (pe_lst (pa_cons (pv 6) (pa_cons (pv 14) (pa_cons (pv 7) (pa_cons (pv 16) (pa_cons (pv 8) (pa_cons (pv 15) (pa_cons (pv 9) (pa_cons (pv 17) pa_nil)))))))))))))))))), ?_⟩
    obtain ⟨KK, EE, hK0, hE, hw⟩ := cW_gen hw
    have S0 := Sep.startG sG
    unfold F__forward_eight at hw
    refine ⟨fun σ H' => ∃ (pairs_1718 : (List (Int × Int))) (u1719 : V) (G' : Hp), σ = [some (V.ref a_values), some u1719, none, none, none, none, none, none, none, none, none, none, none, none, none, none, none, none, none, none, none, none] ∧ Same G G' ∧ Sep [] H G G' H' [] ∧ Rp G' u1719 ((encL (encT2 PyData.int PyData.int)) pairs_1718) ∧ cW (F__forward_eight_k1  pairs_1718) KK EE, ?_, ?_⟩
    · obtain ⟨K1720, hK1721, hw⟩ := cW_push hw
      obtain ⟨K1724, hK1725, hw⟩ := cW_push hw
      refine ⟨_, rfl, (by decide), (by decide), fun D1726 n1727 => lc_range (lo := 0) (n := Int.toNat (4)) (fun i H' => ∃ (G' : Hp) (acc1729 : (List (Int × Int))) (vs1730 : List V), Same G G' ∧ Sep [] H G G' H' [D1726] ∧ H' D1726 = some (.lst vs1730) ∧ RpAll G' vs1730 ((acc1729 : (List (Int × Int))).map (encT2 PyData.int PyData.int)) ∧ Same H H' ∧ cW (mapA (List.drop i (rng (0) (Int.toNat (4)))) acc1729 (fun x => noEr (F__forward_eight_c2 (values') x))) K1724 EE) ?_ ?_ ?_⟩
      · generalize g1731 : upd H D1726 _ = H1732
        obtain ⟨e1733, h1734⟩ := gen_new n1727 g1731
        have fr1735 := S0.free n1727
        have S1736 := S0.new n1727 e1733 h1734 fr1735
        exact ⟨_, [], [], Same.refl _, S1736, h1734, RpAll.nil, e1733, hw⟩
      · intro i H1737 hi hw
        obtain ⟨G1740, acc1742, vs1743, eG1741, S1738, h1739, d1744, eo1748, hw⟩ := hw
        obtain ⟨z1749, hw⟩ := cW_mapA (rng_get hi) hw
        generalize (0 + (i : Int)) = x1750 at hw ⊢
        have hw := cW_noEr hw
        have hw : cW (F__forward_eight_c2 (values') (x1750)) _ (fun _ => False) := hw
        unfold F__forward_eight_c2 at hw
        refine ⟨rfl, ?_⟩
        refine tyes_go ?_
        obtain ⟨g1752, hw⟩ := cW_grd hw
        obtain ⟨g1753, hw⟩ := cW_grd hw
        refine ⟨_, rfl, _, rfl, _, _, _, _, rfl, rfl, (SqL.of (S1738.bM _ _ q_values)), (atI_map g1752), _, rfl, _, rfl, _, _, rfl, rfl, _, _, _, _, rfl, rfl, (SqL.of (S1738.bM _ _ q_values)), (atI_map g1753), rfl, rfl, G1740, _, _, rfl, S1738.sG, cW_call hw (fun v1754 hw v1757 H1755 G1758 e1756 eG1759 sG1760 hn1761 r1762 => ?_) (fun e he => he.elim)⟩
        have S1763 := S1738.step e1756 eG1759 sG1760 hn1761
        obtain ⟨a1764, v1766, v1767, rfl, h1765, r1768, r1769⟩ := rp_tup2 r1762
        obtain rfl := rp_int r1768
        obtain rfl := rp_int r1769
        have h1770 := (e1756 _ _ h1739)
        refine ⟨_, h1770, (app_len (RpAll.mono eG1759 d1744) z1749), ?_⟩
        generalize g1771 : upd H1755 D1726 _ = H1772
        obtain ⟨x1773, h1774⟩ := gen_mut g1771
        have S1775 := S1763.mut1 x1773 (.head _) h1774
        have hw := cW_ok hw
        exact ⟨_, (acc1742 ++ [v1754]), _, (Same.trans eG1741 eG1759), S1775, h1774, (app_map (RpAll.mono eG1759 d1744) (RpAll.one (rp_mk2 h1765 (.int _) (.int _)))), (same_mut (Same.trans eo1748 e1756) x1773 n1727), hw⟩
      intro H1776 hw
      obtain ⟨G1779, acc1781, vs1782, eG1780, S1777, h1778, d1783, eo1787, hw⟩ := hw
      have hw := hK1725 _ (cW_mapA0 (rng_len _ _).symm hw)
      have fr1788 := S0.free n1727
      have hw := cW_ok hw
      have hw := hK1721 _ hw
      obtain ⟨G1789, eG1790, hg1791, S1792⟩ := Sep.freeze (O' := []) S1777 (.head _) h1778 fr1788 (all_nil)
      exact ⟨(acc1781), _, _, rfl, (Same.trans eG1780 eG1790), S1792, (rp_mk_list hg1791 (RpAll.mono eG1790 d1783)), hw⟩
    · intro σ H1793 hw
      obtain ⟨pairs_1718, u1719, G1796, rfl, eG1797, S1794, r1795, hw⟩ := hw
      obtain ⟨a1798, vs1799, rfl, h1800, d1801⟩ := rp_list r1795
      unfold F__forward_eight_k1 at hw
      refine ⟨fun σ H' => ∃ (h0_1807 : Int) (h1_1808 : Int) (h2_1809 : Int) (h3_1810 : Int) (G' : Hp), σ = [some (V.ref a_values), some (V.ref a1798), some (V.int h0_1807), some (V.int h1_1808), some (V.int h2_1809), some (V.int h3_1810), none, none, none, none, none, none, none, none, none, none, none, none, none, none, none, none] ∧ Same G1796 G' ∧ Sep [] H G G' H' [] ∧ cW (F__forward_eight_k3 (pairs_1718) h0_1807 h1_1808 h2_1809 h3_1810) KK EE, ?_, ?_⟩
      · obtain ⟨K1811, hK1812, hw⟩ := cW_push hw
        obtain ⟨K1814, hK1815, hw⟩ := cW_push hw
        refine ⟨_, rfl, _, rfl, ⟨_, (SqL.of (S1794.sG _ _ h1800))⟩, fun D1816 n1817 => lc_list (K := K) (a := a1798) (xs := vs1799) (fun i H' => ∃ (G' : Hp) (acc1819 : (List Int)), Same G1796 G' ∧ Sep [] H G G' H' [D1816] ∧ H' D1816 = some (.lst ((acc1819 : (List Int)).map V.int)) ∧ Same H1793 H' ∧ cW (mapA (List.drop i (pairs_1718)) acc1819 (fun x => noEr (F__forward_eight_c4  x))) K1814 EE) ?_ ?_ ?_ ?_⟩
        · generalize g1821 : upd H1793 D1816 _ = H1822
          obtain ⟨e1823, h1824⟩ := gen_new n1817 g1821
          have fr1825 := S1794.free n1817
          have S1826 := S1794.new n1817 e1823 h1824 fr1825
          exact ⟨_, [], Same.refl _, S1826, h1824, e1823, hw⟩
        · intro i H1827 _ hw
          obtain ⟨G1830, acc1832, eG1831, S1828, h1829, eo1838, hw⟩ := hw
          exact (SqL.of (S1828.sG _ _ (eG1831 _ _ h1800)))
        · intro i x H1839 hj hw
          obtain ⟨G1842, acc1844, eG1843, S1840, h1841, eo1850, hw⟩ := hw
          obtain ⟨x1851, hx, r1852⟩ := RpAll.get (RpAll.mono eG1843 d1801) hj
          obtain ⟨a1853, v1855, v1856, rfl, h1854, r1857, r1858⟩ := rp_tup2 r1852
          obtain rfl := rp_int r1857
          obtain rfl := rp_int r1858
          obtain ⟨z1859, hw⟩ := cW_mapA hx hw
          have hw := cW_noEr hw
          have hw : cW (F__forward_eight_c4  (x1851)) _ (fun _ => False) := hw
          unfold F__forward_eight_c4 at hw
          refine ⟨_, _, rfl, (SqT.of (S1840.sG _ _ h1854)), rfl, _, _, rfl, _, _, rfl, rfl, rfl, ?_⟩
          refine tyes_go ?_
          refine ⟨_, rfl, _, h1841, (app_lenM z1859), ?_⟩
          generalize g1861 : upd H1839 D1816 _ = H1862
          obtain ⟨x1863, h1864⟩ := gen_mut g1861
          have S1865 := S1840.mut1 x1863 (.head _) h1864
          have hw := cW_ok hw
          exact ⟨_, (acc1844 ++ [x1851.2]), eG1843, S1865, (snoc_map h1864), (same_mut eo1850 x1863 n1817), hw⟩
        intro H1866 hw
        obtain ⟨G1869, acc1871, eG1870, S1867, h1868, eo1877, hw⟩ := hw
        have hw := hK1815 _ (cW_mapA0 (by rw [(RpAll.mono eG1870 d1801).len, List.length_map]) hw)
        have fr1878 := S1794.free n1817
        obtain ⟨g1879, hw⟩ := cW_grd hw
        refine ⟨_, [V.int ((itD (acc1871) 0)), V.int ((itD (acc1871) 1)), V.int ((itD (acc1871) 2)), V.int ((itD (acc1871) 3))], rfl, (SqL.cast (SqL.of h1868) (unp4 g1879)), rfl, _, _, rfl, _, _, rfl, _, _, rfl, _, _, rfl, rfl, ?_⟩
        have hw := cW_bnd hw
        have hw := cW_bnd hw
        have hw := cW_bnd hw
        have hw := cW_bnd hw
        have hw := cW_ok hw
        have hw := hK1812 _ hw
        exact ⟨((itD (acc1871) 0)), ((itD (acc1871) 1)), ((itD (acc1871) 2)), ((itD (acc1871) 3)), _, rfl, eG1870, (S1867.sub all_nil), hw⟩
      · intro σ H1884 hw
        obtain ⟨h0_1807, h1_1808, h2_1809, h3_1810, G1886, rfl, eG1887, S1885, hw⟩ := hw
        unfold F__forward_eight_k3 at hw
        refine ⟨fun σ H' => ∃ (e0_1896 : Int) (e1_1897 : Int) (e2_1898 : Int) (e3_1899 : Int) (G' : Hp), σ = [some (V.ref a_values), some (V.ref a1798), some (V.int (h0_1807)), some (V.int (h1_1808)), some (V.int (h2_1809)), some (V.int (h3_1810)), some (V.int e0_1896), some (V.int e1_1897), some (V.int e2_1898), some (V.int e3_1899), none, none, none, none, none, none, none, none, none, none, none, none] ∧ Same G1886 G' ∧ Sep [] H G G' H' [] ∧ cW (F__forward_eight_k5 (h0_1807) (h1_1808) (h2_1809) (h3_1810) e0_1896 e1_1897 e2_1898 e3_1899) KK EE, ?_, ?_⟩
        · obtain ⟨K1900, hK1901, hw⟩ := cW_push hw
          obtain ⟨K1903, hK1904, hw⟩ := cW_push hw
          refine ⟨_, rfl, _, rfl, ⟨_, (SqL.of (S1885.sG _ _ (eG1887 _ _ h1800)))⟩, fun D1905 n1906 => lc_list (K := K) (a := a1798) (xs := vs1799) (fun i H' => ∃ (G' : Hp) (acc1908 : (List Int)), Same G1886 G' ∧ Sep [] H G G' H' [D1905] ∧ H' D1905 = some (.lst ((acc1908 : (List Int)).map V.int)) ∧ Same H1884 H' ∧ cW (mapA (List.drop i (pairs_1718)) acc1908 (fun x => noEr (F__forward_eight_c6  x))) K1903 EE) ?_ ?_ ?_ ?_⟩
          · generalize g1910 : upd H1884 D1905 _ = H1911
            obtain ⟨e1912, h1913⟩ := gen_new n1906 g1910
            have fr1914 := S1885.free n1906
            have S1915 := S1885.new n1906 e1912 h1913 fr1914
            exact ⟨_, [], Same.refl _, S1915, h1913, e1912, hw⟩
          · intro i H1916 _ hw
            obtain ⟨G1919, acc1921, eG1920, S1917, h1918, eo1927, hw⟩ := hw
            exact (SqL.of (S1917.sG _ _ (eG1920 _ _ (eG1887 _ _ h1800))))
          · intro i x H1928 hj hw
            obtain ⟨G1931, acc1933, eG1932, S1929, h1930, eo1939, hw⟩ := hw
            obtain ⟨x1940, hx, r1941⟩ := RpAll.get (RpAll.mono eG1932 (RpAll.mono eG1887 d1801)) hj
            obtain ⟨a1942, v1944, v1945, rfl, h1943, r1946, r1947⟩ := rp_tup2 r1941
            obtain rfl := rp_int r1946
            obtain rfl := rp_int r1947
            obtain ⟨z1948, hw⟩ := cW_mapA hx hw
            have hw := cW_noEr hw
            have hw : cW (F__forward_eight_c6  (x1940)) _ (fun _ => False) := hw
            unfold F__forward_eight_c6 at hw
            refine ⟨_, _, rfl, (SqT.of (S1929.sG _ _ h1943)), rfl, _, _, rfl, _, _, rfl, rfl, rfl, ?_⟩
            refine tyes_go ?_
            refine ⟨_, rfl, _, h1930, (app_lenM z1948), ?_⟩
            generalize g1950 : upd H1928 D1905 _ = H1951
            obtain ⟨x1952, h1953⟩ := gen_mut g1950
            have S1954 := S1929.mut1 x1952 (.head _) h1953
            have hw := cW_ok hw
            exact ⟨_, (acc1933 ++ [x1940.1]), eG1932, S1954, (snoc_map h1953), (same_mut eo1939 x1952 n1906), hw⟩
          intro H1955 hw
          obtain ⟨G1958, acc1960, eG1959, S1956, h1957, eo1966, hw⟩ := hw
          have hw := hK1904 _ (cW_mapA0 (by rw [(RpAll.mono eG1959 (RpAll.mono eG1887 d1801)).len, List.length_map]) hw)
          have fr1967 := S1885.free n1906
          refine ⟨rfl, rfl, G1958, _, _, rfl, S1956.sG, (hide_nil h1957), cW_call hw (fun v1968 hw p1971 H1969 n1972 e1970 h1973 => ?_) (fun e he H2 e2 => hE e he H2 (Same.trans S1956.b0 e2))⟩
          have h1974 : H1969 p1971 = some (.lst ((v1968 : (List Int)).map V.int)) := h1973
          have fr1975 := S1956.free n1972
          have S1976 := S1956.new n1972 e1970 h1974 fr1975
          obtain ⟨g1977, hw⟩ := cW_grd hw
          refine ⟨_, [V.int ((itD (v1968) 0)), V.int ((itD (v1968) 1)), V.int ((itD (v1968) 2)), V.int ((itD (v1968) 3))], rfl, (SqL.cast (SqL.of h1974) (unp4 g1977)), rfl, _, _, rfl, _, _, rfl, _, _, rfl, _, _, rfl, rfl, ?_⟩
          have hw := cW_bnd hw
          have hw := cW_bnd hw
          have hw := cW_bnd hw
          have hw := cW_bnd hw
          have hw := cW_ok hw
          have hw := hK1901 _ hw
          exact ⟨((itD (v1968) 0)), ((itD (v1968) 1)), ((itD (v1968) 2)), ((itD (v1968) 3)), _, rfl, eG1959, (S1976.sub all_nil), hw⟩
        · intro σ H1982 hw
          obtain ⟨e0_1896, e1_1897, e2_1898, e3_1899, G1984, rfl, eG1985, S1983, hw⟩ := hw
          unfold F__forward_eight_k5 at hw
          refine ⟨fun σ H' => ∃ (d0_1994 : Int) (d3_1995 : Int) (G' : Hp), σ = [some (V.ref a_values), some (V.ref a1798), some (V.int (h0_1807)), some (V.int (h1_1808)), some (V.int (h2_1809)), some (V.int (h3_1810)), some (V.int (e0_1896)), some (V.int (e1_1897)), some (V.int (e2_1898)), some (V.int (e3_1899)), some (V.int d0_1994), some (V.int d3_1995), none, none, none, none, none, none, none, none, none, none] ∧ Same G1984 G' ∧ Sep [] H G G' H' [] ∧ cW (F__forward_eight_k7 (h1_1808) (h2_1809) (e0_1896) (e1_1897) (e2_1898) (e3_1899) d0_1994 d3_1995) KK EE, ?_, ?_⟩
          · obtain ⟨K1996, hK1997, hw⟩ := cW_push hw
            refine ⟨_, rfl, _, rfl, rfl, rfl, G1984, _, _, _, _, rfl, S1983.sG, cW_call hw (fun v1998 hw v2001 H1999 G2002 e2000 eG2003 sG2004 hn2005 r2006 => ?_) (fun e he H2 e2 => hE e he H2 (Same.trans S1983.b0 e2))⟩
            have S2007 := S1983.step e2000 eG2003 sG2004 hn2005
            obtain ⟨a2008, v2010, v2011, rfl, h2009, r2012, r2013⟩ := rp_tup2 r2006
            obtain rfl := rp_int r2012
            obtain rfl := rp_int r2013
            refine ⟨_, _, rfl, (SqT.of (S2007.sG _ _ h2009)), rfl, _, _, rfl, _, _, rfl, rfl, ?_⟩
            have hw := cW_ok hw
            have hw := hK1997 _ hw
            exact ⟨(v1998.1), (v1998.2), _, rfl, eG2003, S2007, hw⟩
          · intro σ H2014 hw
            obtain ⟨d0_1994, d3_1995, G2016, rfl, eG2017, S2015, hw⟩ := hw
            unfold F__forward_eight_k7 at hw
            refine ⟨fun σ H' => ∃ (d1_2026 : Int) (d2_2027 : Int) (G' : Hp), σ = [some (V.ref a_values), some (V.ref a1798), some (V.int (h0_1807)), some (V.int (h1_1808)), some (V.int (h2_1809)), some (V.int (h3_1810)), some (V.int (e0_1896)), some (V.int (e1_1897)), some (V.int (e2_1898)), some (V.int (e3_1899)), some (V.int (d0_1994)), some (V.int (d3_1995)), some (V.int d1_2026), some (V.int d2_2027), none, none, none, none, none, none, none, none] ∧ Same G2016 G' ∧ Sep [] H G G' H' [] ∧ cW (F__forward_eight_k8 (e0_1896) (e1_1897) (e2_1898) (e3_1899) (d0_1994) (d3_1995) d1_2026 d2_2027) KK EE, ?_, ?_⟩
            · obtain ⟨K2028, hK2029, hw⟩ := cW_push hw
              refine ⟨_, rfl, _, rfl, rfl, rfl, G2016, _, _, _, _, rfl, S2015.sG, cW_call hw (fun v2030 hw v2033 H2031 G2034 e2032 eG2035 sG2036 hn2037 r2038 => ?_) (fun e he H2 e2 => hE e he H2 (Same.trans S2015.b0 e2))⟩
              have S2039 := S2015.step e2032 eG2035 sG2036 hn2037
              obtain ⟨a2040, v2042, v2043, rfl, h2041, r2044, r2045⟩ := rp_tup2 r2038
              obtain rfl := rp_int r2044
              obtain rfl := rp_int r2045
              refine ⟨_, _, rfl, (SqT.of (S2039.sG _ _ h2041)), rfl, _, _, rfl, _, _, rfl, rfl, ?_⟩
              have hw := cW_ok hw
              have hw := hK2029 _ hw
              exact ⟨(v2030.1), (v2030.2), _, rfl, eG2035, S2039, hw⟩
            · intro σ H2046 hw
              obtain ⟨d1_2026, d2_2027, G2048, rfl, eG2049, S2047, hw⟩ := hw
              unfold F__forward_eight_k8 at hw
              refine ⟨fun σ H' => ∃ (f0_2058 : Int) (f1_2059 : Int) (G' : Hp), σ = [some (V.ref a_values), some (V.ref a1798), some (V.int (h0_1807)), some (V.int (h1_1808)), some (V.int (h2_1809)), some (V.int (h3_1810)), some (V.int (e0_1896)), some (V.int (e1_1897)), some (V.int (e2_1898)), some (V.int (e3_1899)), some (V.int (d0_1994)), some (V.int (d3_1995)), some (V.int (d1_2026)), some (V.int (d2_2027)), some (V.int f0_2058), some (V.int f1_2059), none, none, none, none, none, none] ∧ Same G2048 G' ∧ Sep [] H G G' H' [] ∧ cW (F__forward_eight_k9 (e0_1896) (e1_1897) (e2_1898) (e3_1899) (d3_1995) (d2_2027) f0_2058 f1_2059) KK EE, ?_, ?_⟩
              · obtain ⟨K2060, hK2061, hw⟩ := cW_push hw
                refine ⟨_, rfl, _, rfl, rfl, rfl, G2048, _, _, rfl, S2047.sG, cW_call hw (fun v2062 hw v2065 H2063 G2066 e2064 eG2067 sG2068 hn2069 r2070 => ?_) (fun e he H2 e2 => hE e he H2 (Same.trans S2047.b0 e2))⟩
                have S2071 := S2047.step e2064 eG2067 sG2068 hn2069
                obtain ⟨a2072, v2074, v2075, rfl, h2073, r2076, r2077⟩ := rp_tup2 r2070
                obtain rfl := rp_int r2076
                obtain rfl := rp_int r2077
                refine ⟨_, _, rfl, (SqT.of (S2071.sG _ _ h2073)), rfl, _, _, rfl, _, _, rfl, rfl, ?_⟩
                have hw := cW_ok hw
                have hw := hK2061 _ hw
                exact ⟨(v2062.1), (v2062.2), _, rfl, eG2067, S2071, hw⟩
              · intro σ H2078 hw
                obtain ⟨f0_2058, f1_2059, G2080, rfl, eG2081, S2079, hw⟩ := hw
                unfold F__forward_eight_k9 at hw
                refine ⟨fun σ H' => ∃ (f2_2090 : Int) (f3_2091 : Int) (G' : Hp), σ = [some (V.ref a_values), some (V.ref a1798), some (V.int (h0_1807)), some (V.int (h1_1808)), some (V.int (h2_1809)), some (V.int (h3_1810)), some (V.int (e0_1896)), some (V.int (e1_1897)), some (V.int (e2_1898)), some (V.int (e3_1899)), some (V.int (d0_1994)), some (V.int (d3_1995)), some (V.int (d1_2026)), some (V.int (d2_2027)), some (V.int (f0_2058)), some (V.int (f1_2059)), some (V.int f2_2090), some (V.int f3_2091), none, none, none, none] ∧ Same G2080 G' ∧ Sep [] H G G' H' [] ∧ cW (F__forward_eight_k10 (e0_1896) (e1_1897) (e2_1898) (e3_1899) (f0_2058) (f1_2059) f2_2090 f3_2091) KK EE, ?_, ?_⟩
                · obtain ⟨K2092, hK2093, hw⟩ := cW_push hw
                  refine ⟨_, rfl, _, rfl, rfl, rfl, G2080, _, _, rfl, S2079.sG, cW_call hw (fun v2094 hw v2097 H2095 G2098 e2096 eG2099 sG2100 hn2101 r2102 => ?_) (fun e he H2 e2 => hE e he H2 (Same.trans S2079.b0 e2))⟩
                  have S2103 := S2079.step e2096 eG2099 sG2100 hn2101
                  obtain ⟨a2104, v2106, v2107, rfl, h2105, r2108, r2109⟩ := rp_tup2 r2102
                  obtain rfl := rp_int r2108
                  obtain rfl := rp_int r2109
                  refine ⟨_, _, rfl, (SqT.of (S2103.sG _ _ h2105)), rfl, _, _, rfl, _, _, rfl, rfl, ?_⟩
                  have hw := cW_ok hw
                  have hw := hK2093 _ hw
                  exact ⟨(v2094.1), (v2094.2), _, rfl, eG2099, S2103, hw⟩
                · intro σ H2110 hw
                  obtain ⟨f2_2090, f3_2091, G2112, rfl, eG2113, S2111, hw⟩ := hw
                  unfold F__forward_eight_k10 at hw
                  refine ⟨_, rfl, _, rfl, _, rfl, _, rfl, _, rfl, _, rfl, _, rfl, _, rfl, (by show 8 ≤ sizeLine; decide), fun p2114 n2115 => ?_⟩
                  generalize g2116 : upd H2110 p2114 _ = H2117
                  obtain ⟨e2118, h2119⟩ := gen_new n2115 g2116
                  have h2120 : H2117 p2114 = some (.lst (([e0_1896, f0_2058, e1_1897, f2_2090, e2_1898, f1_2059, e3_1899, f3_2091] : (List Int)).map V.int)) := h2119
                  have fr2121 := S2111.free n2115
                  have S2122 := S2111.new n2115 e2118 h2120 fr2121
                  have hw := cW_ok hw
                  exact hK0 _ hw _ _ fr2121 S2122.b0 h2120

abbrev N_forward : List Str := ["values"]
theorem sc_forward : FnScope N_forward ["values"] (defScope s_forward) := ⟨rfl, rfl, rfl, by decide +kernel, rfl, by decide +kernel, by decide +kernel⟩
theorem ok_forward (D : DefX K mg "forward" s_forward ["values"] pats_forward) (T : Txt K mg AD) (c_check_size : CalX P w K mg base 1 "check_size" (sp_check_size K AD) pats_check_size) (c__forward_four : CalX P w K mg base 2 "_forward_four" (sp__forward_four K AD) pats__forward_four) (c__forward_eight : CalX P w K mg base 3 "_forward_eight" (sp__forward_eight K AD) pats__forward_eight) : CalX P w K mg base 4 "forward" (sp_forward K AD) pats_forward := by
  refine D.ok sc_forward (fun vs H Q E h => ?_) (fun f cdv A_ outer s H vs Q E hr h => ?_)
  · obtain ⟨G, a_values, values', rfl, _⟩ := h
    rfl
  · obtain ⟨G, a_values, values', rfl, sG, q_values, hw⟩ := h
    refine ⟨_, (pss_cons (ps_expr (vx_callX c_check_size pat_check_size_0 (.head _) hr (by decide) (takes_of rfl rfl rfl rfl) rfl (pa_cons (pe_callB (call_lenLiK (K := K)) (by rfl) T.b_len (by decide +kernel) (pa_cons (pv 0) pa_nil)) pa_nil) pk_nil))
      (pss_one (ps_ret (pe_ifExp (pt_cmp (pc_eqI (pe_callB (call_lenLiK (K := K)) (by rfl) T.b_len (by decide +kernel) (pa_cons (pv 0) pa_nil)) pe_int)) (vx_callX c__forward_four pat__forward_four_0 (.head _) hr (by decide) (takes_of rfl rfl rfl rfl) rfl (pa_cons (pv 0) pa_nil) pk_nil) (vx_callX c__forward_eight pat__forward_eight_0 (.head _) hr (by decide) (takes_of rfl rfl rfl rfl) rfl (pa_cons (pv 0) pa_nil) pk_nil))))), ?_⟩
    obtain ⟨KK, EE, hK0, hE, hw⟩ := cW_gen hw
    have S0 := Sep.startG sG
    unfold F_forward at hw
    refine ⟨_, rfl, _, _, rfl, (SqL.of (S0.bM _ _ q_values)), rfl, rfl, G, _, rfl, S0.sG, cW_call hw (fun v2123 hw => ?_) (fun e he => hE e he _ S0.b0)⟩
    refine ⟨_, rfl, _, _, rfl, (SqL.of (S0.bM _ _ q_values)), _, _, rfl, rfl, _, rfl, ?_⟩
    refine iteD (fun c2124 => ?_) (fun c2124 => ?_)
    · have hw := cW_pos c2124 hw
      refine ⟨_, rfl, rfl, rfl, G, _, _, rfl, S0.sG, (hide_nil (S0.bM _ _ q_values)), cW_call hw (fun v2125 hw p2128 H2126 n2129 e2127 h2130 => ?_) (fun e he H2 e2 => hE e he H2 (Same.trans S0.b0 e2))⟩
      have h2131 : H2126 p2128 = some (.lst ((v2125 : (List Int)).map V.int)) := h2130
      have fr2132 := S0.free n2129
      have S2133 := S0.new n2129 e2127 h2131 fr2132
      have hw := cW_ok hw
      exact hK0 _ hw _ _ fr2132 S2133.b0 h2131
    · have hw := cW_neg c2124 hw
      refine ⟨_, rfl, rfl, rfl, G, _, _, rfl, S0.sG, (hide_nil (S0.bM _ _ q_values)), cW_call hw (fun v2134 hw p2137 H2135 n2138 e2136 h2139 => ?_) (fun e he H2 e2 => hE e he H2 (Same.trans S0.b0 e2))⟩
      have h2140 : H2135 p2137 = some (.lst ((v2134 : (List Int)).map V.int)) := h2139
      have fr2141 := S0.free n2138
      have S2142 := S0.new n2138 e2136 h2140 fr2141
      have hw := cW_ok hw
      exact hK0 _ hw _ _ fr2141 S2142.b0 h2140

abbrev N_forward_square : List Str := ["square", "rows", "row", "column"]
theorem sc_forward_square : FnScope N_forward_square ["square"] (defScope s_forward_square) := ⟨rfl, rfl, rfl, by decide +kernel, rfl, by decide +kernel, by decide +kernel⟩
theorem ok_forward_square (D : DefX K mg "forward_square" s_forward_square ["square"] pats_forward_square) (T : Txt K mg AD) (c_check_square : CalX P w K mg base 2 "check_square" (sp_check_square K AD) pats_check_square) (c_forward : CalX P w K mg base 4 "forward" (sp_forward K AD) pats_forward) (c_transposed : CalX P w K mg base 1 "transposed" (sp_transposed K AD) pats_transposed) : CalX P w K mg base 5 "forward_square" (sp_forward_square K AD) pats_forward_square := by
  refine D.ok sc_forward_square (fun vs H Q E h => ?_) (fun f cdv A_ outer s H vs Q E hr h => ?_)
  · obtain ⟨G, v_square, square', rfl, _⟩ := h
    rfl
  · obtain ⟨G, v_square, square', rfl, sG, r_square, hw⟩ := h
    refine ⟨_, (pss_cons (ps_expr (vx_callX c_check_square pat_check_square_0 (.head _) hr (by decide) (takes_of rfl rfl rfl rfl) rfl (pa_cons (pv 0) pa_nil) pk_nil))
      (pss_cons (ps_setLc (i := 1) (y := "rows") rfl sc_forward_square.nd rfl rfl (sw_true rfl rfl rfl (by decide +kernel)) (own := [("row", 2)]) (g := gName 2) (pi_listK (K := K) (pv 0)) (blkOk_by (own := [("row", 2)]) (N := N_forward_square) (sc := defScope s_forward_square) (by decide +kernel)) (fun _ _ _ _ _ => (pg_name (i := 2) sc_forward_square.nd rfl (Or.inl rfl))) (fun _ _ _ _ _ => pts_nil) (fun _ _ _ _ _ => (vx_callX c_forward pat_forward_0 (.head _) hr (by decide) takes0 rfl (pa_cons (pv 2) pa_nil) pk_nil)))
      (pss_one (ps_ret (vx_callX c_transposed pat_transposed_0 (.head _) hr (by decide) (takes_of rfl rfl rfl rfl) rfl (pa_cons (pe_lc (own := [("column", 3)]) (g := gName 3) (by rfl) sc_forward_square.nd (pi_listK (K := K) (vx_callX c_transposed pat_transposed_0 (.head _) hr (by decide) (takes_of rfl rfl rfl rfl) rfl (pa_cons (pv 1) pa_nil) pk_nil)) (blkOk_by (own := [("column", 3)]) (N := N_forward_square) (sc := defScope s_forward_square) (by decide +kernel)) (fun _ _ _ _ _ => (pg_name (i := 3) sc_forward_square.nd rfl (Or.inl rfl))) (fun _ _ _ _ _ => pts_nil) (fun _ _ _ _ _ => (vx_callX c_forward pat_forward_0 (.head _) hr (by decide) takes0 rfl (pa_cons (pv 3) pa_nil) pk_nil))) pa_nil) pk_nil))))), ?_⟩
    obtain ⟨KK, EE, hK0, hE, hw⟩ := cW_gen hw
    have S0 := Sep.startG sG
    unfold F_forward_square at hw
    obtain ⟨a2143, vs2144, rfl, h2145, d2146⟩ := rp_list r_square
    refine ⟨_, rfl, rfl, rfl, G, _, _, rfl, S0.sG, (Rp.hide_nil (rp_mk_list (S0.bM _ _ h2145) (RpAll.mono S0.bM d2146))), cW_call hw (fun v2147 hw H2148 e2149 => ?_) (fun e he H2 e2 => hE e he H2 (Same.trans S0.b0 e2))⟩
    have S2150 := S0.same e2149
    obtain ⟨K2152, hK2153, hw⟩ := cW_push hw
    refine ⟨_, rfl, _, rfl, ⟨_, (SqL.of (S2150.bM _ _ h2145))⟩, fun D2154 n2155 => lc_list (K := K) (a := a2143) (xs := vs2144) (fun i H' => ∃ (G' : Hp) (acc2157 : (List (List Int))) (vs2158 : List V) (L2156 : List Addr), Same G G' ∧ Sep [] H G G' H' (D2154 :: (L2156 ++ [])) ∧ H' D2154 = some (.lst vs2158) ∧ OwAll G' H' L2156 vs2158 ((acc2157 : (List (List Int))).map (oL oI)) ∧ (∀ b ∈ L2156, H2148 b = none) ∧ (∀ b ∈ L2156, b ≠ D2154) ∧ Same H2148 H' ∧ cW (mapA (List.drop i (square')) acc2157 (fun x => noEr (F_forward_square_c1  x))) K2152 EE) ?_ ?_ ?_ ?_⟩
    · generalize g2159 : upd H2148 D2154 _ = H2160
      obtain ⟨e2161, h2162⟩ := gen_new n2155 g2159
      have fr2163 := S2150.free n2155
      have S2164 := S2150.new n2155 e2161 h2162 fr2163
      exact ⟨_, [], [], [], Same.refl _, (S2164.sub (all_cons (.head _) (all_app (L := []) all_nil all_nil))), h2162, OwAll.nil, all_nil, all_nil, e2161, hw⟩
    · intro i H2165 _ hw
      obtain ⟨G2168, acc2170, vs2171, L2173, eG2169, S2166, h2167, d2172, nb2174, nd2175, eo2176, hw⟩ := hw
      exact (SqL.of (S2166.bM _ _ h2145))
    · intro i x H2177 hj hw
      obtain ⟨G2180, acc2182, vs2183, L2185, eG2181, S2178, h2179, d2184, nb2186, nd2187, eo2188, hw⟩ := hw
      obtain ⟨x2189, hx, r2190⟩ := RpAll.get d2146 hj
      obtain ⟨a2191, rfl, h2192⟩ := rp_ints r2190
      obtain ⟨z2193, hw⟩ := cW_mapA hx hw
      have hw := cW_noEr hw
      have hw : cW (F_forward_square_c1  (x2189)) _ (fun _ => False) := hw
      unfold F_forward_square_c1 at hw
      refine ⟨rfl, ?_⟩
      refine tyes_go ?_
      refine ⟨_, rfl, rfl, rfl, G2180, _, _, rfl, S2178.sG, (hide_nil (S2178.bM _ _ h2192)), cW_call hw (fun v2195 hw p2198 H2196 n2199 e2197 h2200 => ?_) (fun e he => he.elim)⟩
      have h2201 : H2196 p2198 = some (.lst ((v2195 : (List Int)).map V.int)) := h2200
      have fr2202 := S2178.free n2199
      have S2203 := S2178.new n2199 e2197 h2201 fr2202
      have w2204 : OwAll G2180 H2196 L2185 (vs2183) ((acc2182 : (List (List Int))).map (oL oI)) := (OwAll.mono (Same.refl _) (keeps_same e2197) d2184)
      have h2205 := (e2197 _ _ h2179)
      refine ⟨_, h2205, (app_len (OwAll.rpA w2204 (encO_L encO_I) S2203.sG) z2193), ?_⟩
      generalize g2206 : upd H2196 D2154 _ = H2207
      obtain ⟨x2208, h2209⟩ := gen_mut g2206
      have S2210 := S2203.mut1 x2208 (.tail _ (.head _)) h2209
      have hw := cW_ok hw
      exact ⟨_, (acc2182 ++ [v2195]), _, (L2185 ++ (p2198 :: ([] : List Addr))), eG2181, (S2210.sub (all_cons (.tail _ (.head _)) (all_app (all_app ((fun b hb => (.tail _ (.tail _ (List.mem_append_left _ hb)))) : ∀ b ∈ L2185, b ∈ (p2198 :: (D2154 :: (L2185 ++ [])))) (all_cons (.head _) all_nil)) all_nil))), h2209, (OwAll.mono (Same.refl _) (keeps_mut x2208 ((all_app nd2187 (all_cons (ne_of_none h2179 n2199).symm all_nil)) : ∀ b ∈ (L2185 ++ (p2198 :: ([] : List Addr))), b ≠ D2154)) (OwAll.snocM w2204 (Ow.ints h2201) ((fun b hb => (nm_cons ((there_ne (fun b_ hb_ => (S2178.ow b_ (((fun b hb => (.tail _ (List.mem_append_left _ hb))) : ∀ b ∈ L2185, b ∈ (D2154 :: (L2185 ++ []))) b_ hb_)).2.1) n2199) b hb) nm_nil)) : ∀ b ∈ L2185, b ∉ (p2198 :: ([] : List Addr))))), ((all_app nb2186 (all_cons (none_of_same eo2188 n2199) all_nil)) : ∀ b ∈ (L2185 ++ (p2198 :: ([] : List Addr))), H2148 b = none), ((all_app nd2187 (all_cons (ne_of_none h2179 n2199).symm all_nil)) : ∀ b ∈ (L2185 ++ (p2198 :: ([] : List Addr))), b ≠ D2154), (same_mut (Same.trans eo2188 e2197) x2208 n2155), hw⟩
    intro H2211 hw
    obtain ⟨G2214, acc2216, vs2217, L2219, eG2215, S2212, h2213, d2218, nb2220, nd2221, eo2222, hw⟩ := hw
    have hw := hK2153 _ (cW_mapA0 (by rw [d2146.len, List.length_map]) hw)
    have fr2223 := S2150.free n2155
    refine ⟨_, rfl, rfl, rfl, G2214, _, _, rfl, S2212.sG, (Rp.hide_nil (rp_mk_list h2213 (OwAll.rpA d2218 (encO_L encO_I) S2212.sG))), cW_call hw (fun v2224 hw H2225 a2227 vs2228 L2229 G2230 n2231 nb2232 nd2233 e2226 eG2234 sG2235 hn2236 ga2237 gL2238 h2239 w2240 => ?_) (fun e he H2 e2 => hE e he H2 (Same.trans S2212.b0 e2))⟩
    have fr2241 := S2212.free n2231
    have S2242 : Sep _ _ _ _ H2225 (a2227 :: (L2229 ++ (D2154 :: (L2219 ++ [])))) := Sep.steptree S2212 e2226 eG2234 sG2235 hn2236 (a2227 :: L2229) (all_cons ⟨n2231, ga2237, some_ne h2239⟩ (fun b hb => ⟨nb2232 b hb, gL2238 b hb, OwAll.there w2240 b hb⟩))
    obtain ⟨K2244, hK2245, hw⟩ := cW_push hw
    refine ⟨_, rfl, ⟨_, (SqL.of h2239)⟩, fun D2246 n2247 => lc_list (K := K) (a := a2227) (xs := vs2228) (fun i H' => ∃ (G' : Hp) (acc2249 : (List (List Int))) (vs2250 : List V), Same G2230 G' ∧ Sep [] H G G' H' (D2246 :: (D2154 :: (a2227 :: (L2219 ++ (L2229 ++ []))))) ∧ H' D2154 = some (.lst (vs2217)) ∧ H' a2227 = some (.lst (vs2228)) ∧ H' D2246 = some (.lst vs2250) ∧ OwAll G' H' L2219 (vs2217) ((acc2216 : (List (List Int))).map (oL oI)) ∧ OwAll G' H' L2229 (vs2228) ((v2224 : (List (List Int))).map (oL oI)) ∧ RpAll G' vs2250 ((acc2249 : (List (List Int))).map (encL PyData.int)) ∧ Same H2225 H' ∧ cW (mapA (List.drop i (v2224)) acc2249 (fun x => noEr (F_forward_square_c2  x))) K2244 EE) ?_ ?_ ?_ ?_⟩
    · generalize g2251 : upd H2225 D2246 _ = H2252
      obtain ⟨e2253, h2254⟩ := gen_new n2247 g2251
      have fr2255 := S2242.free n2247
      have S2256 := S2242.new n2247 e2253 h2254 fr2255
      have h2257 := (e2253 _ _ (e2226 _ _ h2213))
      have h2258 := (e2253 _ _ h2239)
      have w2259 : OwAll G2230 H2252 L2219 (vs2217) ((acc2216 : (List (List Int))).map (oL oI)) := (OwAll.mono eG2234 keeps_refl (OwAll.mono (Same.refl _) (keeps_same e2253) (OwAll.mono (Same.refl _) (keeps_same e2226) d2218)))
      have w2260 : OwAll G2230 H2252 L2229 (vs2228) ((v2224 : (List (List Int))).map (oL oI)) := (OwAll.mono (Same.refl _) (keeps_same e2253) w2240)
      exact ⟨_, [], [], Same.refl _, (S2256.sub (all_cons (.head _) (all_cons (.tail _ (.tail _ (List.mem_append_right _ (.head _)))) (all_cons (.tail _ (.head _)) (all_app ((fun b hb => (.tail _ (.tail _ (List.mem_append_right _ (.tail _ (List.mem_append_left _ hb)))))) : ∀ b ∈ L2219, b ∈ (D2246 :: (a2227 :: (L2229 ++ (D2154 :: (L2219 ++ [])))))) (all_app ((fun b hb => (.tail _ (.tail _ (List.mem_append_left _ hb)))) : ∀ b ∈ L2229, b ∈ (D2246 :: (a2227 :: (L2229 ++ (D2154 :: (L2219 ++ [])))))) all_nil)))))), h2257, h2258, h2254, w2259, w2260, RpAll.nil, e2253, hw⟩
    · intro i H2261 _ hw
      obtain ⟨G2264, acc2266, vs2267, eG2265, S2262, h2273, h2274, h2263, w2275, w2276, d2268, eo2272, hw⟩ := hw
      exact (SqL.of h2274)
    · intro i x H2277 hj hw
      obtain ⟨G2280, acc2282, vs2283, eG2281, S2278, h2289, h2290, h2279, w2291, w2292, d2284, eo2288, hw⟩ := hw
      obtain ⟨x2293, L2294, hx, w2295, hs2296⟩ := OwAll.turn w2292 hj
      obtain ⟨b2297, rfl, rfl, h2298⟩ := Ow.toInts w2295
      have hv2299 := hj
      have hx2300 := hx
      obtain ⟨z2301, hw⟩ := cW_mapA hx hw
      have hw := cW_noEr hw
      have hw : cW (F_forward_square_c2  (x2293)) _ (fun _ => False) := hw
      unfold F_forward_square_c2 at hw
      refine ⟨rfl, ?_⟩
      refine tyes_go ?_
      refine ⟨_, rfl, rfl, rfl, G2280, _, _, rfl, S2278.sG, (hide_nil h2298), cW_call hw (fun v2303 hw p2306 H2304 n2307 e2305 h2308 => ?_) (fun e he => he.elim)⟩
      have h2309 : H2304 p2306 = some (.lst ((v2303 : (List Int)).map V.int)) := h2308
      have fr2310 := S2278.free n2307
      have S2311 := S2278.new n2307 e2305 h2309 fr2310
      obtain ⟨G2312, eG2313, hg2314, S2315⟩ := Sep.freeze (O' := (D2246 :: (D2154 :: (a2227 :: (L2219 ++ (L2229 ++ [])))))) S2311 (.head _) h2309 fr2310 ((all_cons ⟨(.tail _ (.head _)), (ne_of_none h2279 n2307)⟩ (all_cons ⟨(.tail _ (.tail _ (.head _))), (ne_of_none h2289 n2307)⟩ (all_cons ⟨(.tail _ (.tail _ (.tail _ (.head _)))), (ne_of_none h2290 n2307)⟩ (all_app (fun b hb => ⟨((fun b hb => (.tail _ (.tail _ (.tail _ (.tail _ (List.mem_append_left _ hb)))))) : ∀ b ∈ L2219, b ∈ (p2306 :: (D2246 :: (D2154 :: (a2227 :: (L2219 ++ (L2229 ++ []))))))) b hb, (there_ne (fun b_ hb_ => (S2278.ow b_ (((fun b hb => (.tail _ (.tail _ (.tail _ (List.mem_append_left _ hb))))) : ∀ b ∈ L2219, b ∈ (D2246 :: (D2154 :: (a2227 :: (L2219 ++ (L2229 ++ [])))))) b_ hb_)).2.1) n2307) b hb⟩) (all_app (fun b hb => ⟨((fun b hb => (.tail _ (.tail _ (.tail _ (.tail _ (List.mem_append_right _ (List.mem_append_left _ hb))))))) : ∀ b ∈ L2229, b ∈ (p2306 :: (D2246 :: (D2154 :: (a2227 :: (L2219 ++ (L2229 ++ []))))))) b hb, (there_ne (fun b_ hb_ => (S2278.ow b_ (((fun b hb => (.tail _ (.tail _ (.tail _ (List.mem_append_right _ (List.mem_append_left _ hb)))))) : ∀ b ∈ L2229, b ∈ (D2246 :: (D2154 :: (a2227 :: (L2219 ++ (L2229 ++ [])))))) b_ hb_)).2.1) n2307) b hb⟩) all_nil))))))
      have h2316 := (e2305 _ _ h2279)
      refine ⟨_, h2316, (app_len (RpAll.mono eG2313 d2284) z2301), ?_⟩
      generalize g2317 : upd H2304 D2246 _ = H2318
      obtain ⟨x2319, h2320⟩ := gen_mut g2317
      have S2321 := S2315.mut1 x2319 (.head _) h2320
      have hw := cW_ok hw
      have h2322 := (x2319 _ _ (e2305 _ _ h2289) (ne_of_none (e2226 _ _ h2213) n2247))
      have h2323 := (x2319 _ _ (e2305 _ _ h2290) (ne_of_none h2239 n2247))
      have w2324 : OwAll G2312 H2318 L2219 (vs2217) ((acc2216 : (List (List Int))).map (oL oI)) := (OwAll.mono eG2313 keeps_refl (OwAll.mono (Same.refl _) (keeps_mut x2319 ((there_ne (fun b_ hb_ => (S2242.ow b_ (((fun b hb => (.tail _ (List.mem_append_right _ (.tail _ (List.mem_append_left _ hb))))) : ∀ b ∈ L2219, b ∈ (a2227 :: (L2229 ++ (D2154 :: (L2219 ++ []))))) b_ hb_)).2.1) n2247) : ∀ b ∈ L2219, b ≠ D2246)) (OwAll.mono (Same.refl _) (keeps_same e2305) w2291)))
      have w2325 : OwAll G2312 H2318 L2229 (vs2228) ((v2224 : (List (List Int))).map (oL oI)) := (OwAll.mono eG2313 keeps_refl (OwAll.mono (Same.refl _) (keeps_mut x2319 ((there_ne (fun b_ hb_ => (S2242.ow b_ (((fun b hb => (.tail _ (List.mem_append_left _ hb))) : ∀ b ∈ L2229, b ∈ (a2227 :: (L2229 ++ (D2154 :: (L2219 ++ []))))) b_ hb_)).2.1) n2247) : ∀ b ∈ L2229, b ≠ D2246)) (OwAll.mono (Same.refl _) (keeps_same e2305) w2292)))
      exact ⟨_, (acc2282 ++ [v2303]), _, (Same.trans eG2281 eG2313), S2321, h2322, h2323, h2320, w2324, w2325, (app_map (RpAll.mono eG2313 d2284) (RpAll.one (rp_mk_ints hg2314))), (same_mut (Same.trans eo2288 e2305) x2319 n2247), hw⟩
    intro H2326 hw
    obtain ⟨G2329, acc2331, vs2332, eG2330, S2327, h2338, h2339, h2328, w2340, w2341, d2333, eo2337, hw⟩ := hw
    have hw := hK2245 _ (cW_mapA0 (by rw [(OwAll.rpA w2341 (encO_L encO_I) S2327.sG).len, List.length_map]) hw)
    have fr2342 := S2242.free n2247
    refine ⟨rfl, rfl, G2329, _, _, rfl, S2327.sG, (Rp.hide_nil (rp_mk_list h2328 (RpAll.mono S2327.sG d2333))), cW_call hw (fun v2343 hw H2344 a2346 vs2347 L2348 G2349 n2350 nb2351 nd2352 e2345 eG2353 sG2354 hn2355 ga2356 gL2357 h2358 w2359 => ?_) (fun e he H2 e2 => hE e he H2 (Same.trans S2327.b0 e2))⟩
    have fr2360 := S2327.free n2350
    have S2361 : Sep _ _ _ _ H2344 (a2346 :: (L2348 ++ (D2246 :: (D2154 :: (a2227 :: (L2219 ++ (L2229 ++ []))))))) := Sep.steptree S2327 e2345 eG2353 sG2354 hn2355 (a2346 :: L2348) (all_cons ⟨n2350, ga2356, some_ne h2358⟩ (fun b hb => ⟨nb2351 b hb, gL2357 b hb, OwAll.there w2359 b hb⟩))
    have hw := cW_ok hw
    exact hK0 _ hw _ _ _ _ _ fr2360 ((fun b hb => Sep.h0 S2361 (((fun b hb => (.tail _ (List.mem_append_left _ hb))) : ∀ b ∈ L2348, b ∈ (a2346 :: (L2348 ++ (D2246 :: (D2154 :: (a2227 :: (L2219 ++ (L2229 ++ [])))))))) b hb) nm_nil) : ∀ b ∈ L2348, H b = none) (nd2352 : ∀ b ∈ L2348, b ≠ a2346) S2361.b0 S2361.g0 S2361.sG S2361.gn (S2361.ow _ (.head _)).1 ((fun b hb => (S2361.ow b (((fun b hb => (.tail _ (List.mem_append_left _ hb))) : ∀ b ∈ L2348, b ∈ (a2346 :: (L2348 ++ (D2246 :: (D2154 :: (a2227 :: (L2219 ++ (L2229 ++ [])))))))) b hb)).1) : ∀ b ∈ L2348, G2349 b = none) h2358 w2359

abbrev N__law_cell : List Str := ["script", "k"]
theorem sc__law_cell : FnScope N__law_cell ["script", "k"] (defScope s__law_cell) := ⟨rfl, rfl, rfl, by decide +kernel, rfl, by decide +kernel, by decide +kernel⟩
theorem ok__law_cell (D : DefX K mg "_law_cell" s__law_cell ["script", "k"] pats__law_cell) (T : Txt K mg AD)  : CalX P w K mg base 1 "_law_cell" (sp__law_cell K AD) pats__law_cell := by
  refine D.ok sc__law_cell (fun vs H Q E h => ?_) (fun f cdv A_ outer s H vs Q E hr h => ?_)
  · obtain ⟨G, a_script, script', k', rfl, _⟩ := h
    rfl
  · obtain ⟨G, a_script, script', k', rfl, sG, q_script, hw⟩ := h
    refine ⟨_, (pss_cons (ps_if (pt_cmp (pc_lt (pv 1) (pe_callB (call_lenLiK (K := K)) (by rfl) T.b_len (by decide +kernel) (pa_cons (pv 0) pa_nil)))) (pss_one (ps_ret (pe_callB call_abs (by rfl) T.b_abs (by decide +kernel) (pa_cons (pe_callTy call_int1 (by rfl) T.b_int (by decide +kernel) (pa_cons (pe_ix (ix_listK (K := K)) (pv 0) (pv 1) (fun _ _ => rfl)) pa_nil)) pa_nil)))) pss_nil)
      (pss_one (ps_ret pe_int))), ?_⟩
    obtain ⟨KK, EE, hK0, hE, hw⟩ := cW_gen hw
    have S0 := Sep.startG sG
    unfold F__law_cell at hw
    refine ⟨_, rfl, _, rfl, _, _, rfl, (S0.b0.seq q_script), _, _, rfl, rfl, _, rfl, ?_⟩
    refine iteD (fun c2362 => ?_) (fun c2362 => ?_)
    · have hw := cW_pos c2362 hw
      obtain ⟨g2363, hw⟩ := cW_grd hw
      refine ⟨_, rfl, _, rfl, _, _, _, _, rfl, rfl, (S0.b0.seq q_script), (atI_map g2363), .inl ⟨_, rfl, ?_⟩⟩
      refine ⟨_, rfl, ?_⟩
      have hw := cW_ok hw
      exact hK0 _ hw
    · have hw := cW_neg c2362 hw
      have hw := cW_ok hw
      exact hK0 _ hw

abbrev N__law_refused : List Str := ["levels", "quantizer"]
theorem sc__law_refused : FnScope N__law_refused ["levels", "quantizer"] (defScope s__law_refused) := ⟨rfl, rfl, rfl, by decide +kernel, rfl, by decide +kernel, by decide +kernel⟩
theorem ok__law_refused (D : DefX K mg "_law_refused" s__law_refused ["levels", "quantizer"] pats__law_refused) (T : Txt K mg AD) (c_residue_of : CalX P w K mg base 6 "residue_of" (sp_residue_of K AD) pats_residue_of) : CalX P w K mg base 7 "_law_refused" (sp__law_refused K AD) pats__law_refused := by
  refine D.ok sc__law_refused (fun vs H Q E h => ?_) (fun f cdv A_ outer s H vs Q E hr h => ?_)
  · obtain ⟨G, a_levels, levels', quantizer', rfl, _⟩ := h
    rfl
  · obtain ⟨G, a_levels, levels', quantizer', rfl, sG, q_levels, hw⟩ := h
    refine ⟨_, (pss_cons (ps_try_only rfl rfl ⟨rfl, by decide, .inl T.xg_OutOfRange⟩ (takes_of rfl rfl rfl rfl) (fun W pn xe tk pse => (pss_one (ps_expr (vx_callX c_residue_of pat_residue_of_0 (.head _) hr (by decide) tk rfl (pa_cons (pv 0) (pa_cons (pv 1) pa_nil)) pk_nil)))) (fun a oe cls d pn _ _ => (pss_one (ps_ret pe_bl))))
      (pss_one (ps_ret pe_bl))), ?_⟩
    obtain ⟨KK, EE, hK0, hE, hw⟩ := cW_gen hw
    have S0 := Sep.startG sG
    unfold F__law_refused at hw
    refine ⟨_, rfl, _, rfl, rfl, rfl, G, _, _, _, rfl, S0.sG, (hide_nil (S0.bM _ _ q_levels)), cW_try hw (fun v2364 hw H2365 a2367 vs2368 L2369 G2370 n2371 nb2372 nd2373 e2366 eG2374 sG2375 hn2376 ga2377 gL2378 h2379 w2380 => ?_) ?_⟩
    · have fr2381 := S0.free n2371
      have S2382 : Sep _ _ _ _ H2365 (a2367 :: (L2369 ++ [])) := Sep.steptree S0 e2366 eG2374 sG2375 hn2376 (a2367 :: L2369) (all_cons ⟨n2371, ga2377, some_ne h2379⟩ (fun b hb => ⟨nb2372 b hb, gL2378 b hb, OwAll.there w2380 b hb⟩))
      have hw := cW_ok hw
      exact hK0 _ hw _ S2382.b0
    · intro e hm hw H2383 e2384
      have S2385 := S0.same e2384
      obtain rfl := mem_one hm
      refine ⟨true, T.xm_OutOfRange_OutOfRange, fun _ _ _ => ?_, fun q => nomatch q⟩
      have hw := cW_ok hw
      exact hK0 _ hw _ S2385.b0

abbrev N__law_digits : List Str := ["cell", "base", "most", "digits", "large", "k"]
theorem sc__law_digits : FnScope N__law_digits ["cell", "base", "most"] (defScope s__law_digits) := ⟨rfl, rfl, rfl, by decide +kernel, rfl, by decide +kernel, by decide +kernel⟩
theorem ok__law_digits (D : DefX K mg "_law_digits" s__law_digits ["cell", "base", "most"] pats__law_digits) (T : Txt K mg AD)  : CalX P w K mg base 1 "_law_digits" (sp__law_digits K AD) pats__law_digits := by
  refine D.ok sc__law_digits (fun vs H Q E h => ?_) (fun f cdv A_ outer s H vs Q E hr h => ?_)
  · obtain ⟨G, cell', base', most', rfl, _⟩ := h
    rfl
  · obtain ⟨G, cell', base', most', rfl, sG, hw⟩ := h
    refine ⟨_, (pss_cons (ps_set (i := 3) sc__law_digits.nd rfl (Or.inl rfl) (pe_lst pa_nil))
      (pss_cons (ps_set (i := 4) sc__law_digits.nd rfl (Or.inl rfl) (pe_cmp (pc_ge (pv 0) (pe_op op_pow pe_int pe_int))))
      (pss_cons (ps_for (passes_of rfl) rfl (pi_range1 rfl T.b_range (pa_cons (pv 2) pa_nil)) (pg_name (i := 5) sc__law_digits.nd rfl (Or.inl rfl)) (pss_one (ps_if (pt_val (pv 4)) (pss_cons (ps_expr (pe_bm PySem.F.plainAttrs_list PySem.F.slot_list_append PySem.F.type_list_append mt_append (pv 3) (pa_cons (pe_op op_mod (pe_callTy call_int1 (by rfl) T.b_int (by decide +kernel) (pa_cons (pv 0) pa_nil)) (pv 1)) pa_nil)))
      (pss_one (ps_set (i := 0) sc__law_digits.nd rfl (Or.inl rfl) (pe_op op_fdivW (pv 0) (pv 1))))) (pss_one (ps_expr (pe_bm PySem.F.plainAttrs_list PySem.F.slot_list_append PySem.F.type_list_append mt_append (pv 3) (pa_cons (pe_op op_mod (pe_op op_mod (pe_callTy call_int1 (by rfl) T.b_int (by decide +kernel) (pa_cons (pe_op op_add (pe_op op_add (pe_op op_mul (pv 0) pe_int) (pe_op op_mul (pe_op op_mul (pe_op op_add (pv 5) pe_int) (pe_op op_add (pv 5) pe_int)) pe_int)) (pe_op op_mul (pe_op op_fdivW (pv 0) pe_int) (pv 5))) pa_nil)) pe_int) (pv 1)) pa_nil)))))))
      (pss_one (ps_ret (pv 3)))))), ?_⟩
    obtain ⟨KK, EE, hK0, hE, hw⟩ := cW_gen hw
    have S0 := Sep.startG sG
    unfold F__law_digits at hw
    refine ⟨(by show 0 ≤ sizeLine; decide), fun p2386 n2387 => ?_⟩
    generalize g2388 : upd H p2386 _ = H2389
    obtain ⟨e2390, h2391⟩ := gen_new n2387 g2388
    have h2392 : H2389 p2386 = some (.lst ((([] : (List Int)) : (List Int)).map V.int)) := h2391
    have fr2393 := S0.free n2387
    have S2394 := S0.new n2387 e2390 h2392 fr2393
    refine ⟨_, rfl, _, _, rfl, rfl, ⟨by decide, by decide, by decide⟩, _, _, rfl, rfl, ?_⟩
    have hw := cW_bnd hw
    obtain ⟨g2396, hw⟩ := cW_grd hw
    obtain ⟨K2399, hK2400, hw⟩ := cW_push hw
    refine ⟨_, rfl, _, rfl, g2396.1, g2396.2, for_range (lo := 0) (n := Int.toNat (most')) (fun i σ H' => ∃ (cell_2401 : Int) (digits_2402 : (List Int)) (u2403 : Option V) (G' : Hp), σ = [some (V.int cell_2401), some (V.int (base')), some (V.int (most')), some (V.ref p2386), some (V.bl (decide (((10 : Int) ^ Int.toNat 18) ≤ cell'))), u2403] ∧ Same G G' ∧ Sep [] H G G' H' [p2386] ∧ H' p2386 = some (.lst ((digits_2402 : (List Int)).map V.int)) ∧ cW (forS (List.drop i (rng (0) (Int.toNat (most')))) (cell_2401, digits_2402) (fun s x => F__law_digits_b1 (base') (decide (((10 : Int) ^ Int.toNat 18) ≤ cell')) (s.1) (s.2) x)) K2399 EE) ?_ ?_ ?_⟩
    · exact ⟨(cell'), (([] : (List Int))), _, _, rfl, (Same.refl _), S2394, h2392, hw⟩
    · intro i σ H2404 hi hw
      obtain ⟨cell_2401, digits_2402, u2403, G2407, rfl, eG2408, S2405, h2406, hw⟩ := hw
      have hw := cW_forS (rng_get hi) hw
      generalize (0 + (i : Int)) = x2409 at hw ⊢
      have hw : cW (F__law_digits_b1 (base') (decide (((10 : Int) ^ Int.toNat 18) ≤ cell')) (cell_2401) (digits_2402) (x2409)) _ EE := hw
      unfold F__law_digits_b1 at hw
      obtain ⟨K2412, hK2413, hw⟩ := cW_name hw
      refine ⟨_, rfl, _, rfl, ?_⟩
      refine iteB (fun c2415 => ?_) (fun c2415 => ?_)
      · have hw := cW_pos c2415 hw
        refine ⟨_, rfl, (.inl ⟨rfl, _, SqL.of h2406⟩), _, rfl, .inl ⟨_, rfl, ?_⟩⟩
        obtain ⟨g2416, hw⟩ := cW_grd hw
        obtain ⟨g2417, hw⟩ := cW_grd hw
        refine ⟨_, rfl, _, _, rfl, rfl, g2416, _, _, _, rfl, rfl, h2406, (app_lenM g2417), ?_⟩
        generalize g2418 : upd H2404 p2386 _ = H2419
        obtain ⟨x2420, h2421⟩ := gen_mut g2418
        have h2422 : H2419 p2386 = some (.lst (((digits_2402) ++ [(cell_2401 % base')] : (List Int)).map V.int)) := snoc_map h2421
        have S2423 := S2405.mut1 x2420 (.head _) h2422
        have hw := cW_bnd hw
        obtain ⟨g2425, hw⟩ := cW_grd hw
        refine ⟨_, rfl, _, rfl, _, _, rfl, rfl, (divW_small g2425.1 g2425.2), ?_⟩
        have hw := cW_bnd hw
        have hw := cW_ok hw
        have hw := hK2413 _ hw
        exact ⟨((cell_2401 / base')), ((digits_2402) ++ [(cell_2401 % base')]), _, _, rfl, eG2408, S2423, h2422, hw⟩
      · have hw := cW_negB c2415 hw
        obtain ⟨g2427, hw⟩ := cW_grd hw
        obtain ⟨g2428, hw⟩ := cW_grd hw
        refine ⟨_, rfl, (.inl ⟨rfl, _, SqL.of h2406⟩), _, rfl, _, _, rfl, rfl, (.inr ⟨by decide, by decide⟩), _, rfl, _, _, rfl, rfl, _, rfl, _, _, rfl, rfl, _, _, rfl, rfl, g2427, _, _, rfl, rfl, (.inr ⟨by decide, by decide⟩), _, _, rfl, rfl, _, rfl, _, _, rfl, rfl, (divW_lit (by decide) (by decide)), _, rfl, _, _, rfl, rfl, g2428, _, _, rfl, rfl, .inl ⟨_, rfl, ?_⟩⟩
        obtain ⟨g2429, hw⟩ := cW_grd hw
        obtain ⟨g2430, hw⟩ := cW_grd hw
        refine ⟨_, _, rfl, rfl, (show (0 : Int) < 2147483647 by decide), _, rfl, _, _, rfl, rfl, g2429, _, _, _, rfl, rfl, h2406, (app_lenM g2430), ?_⟩
        generalize g2431 : upd H2404 p2386 _ = H2432
        obtain ⟨x2433, h2434⟩ := gen_mut g2431
        have h2435 : H2432 p2386 = some (.lst (((digits_2402) ++ [(((((cell_2401 * 48271) + (((x2409 + 1) * (x2409 + 5)) * 69621)) + ((cell_2401 / 97) * x2409)) % 2147483647) % base')] : (List Int)).map V.int)) := snoc_map h2434
        have S2436 := S2405.mut1 x2433 (.head _) h2435
        have hw := cW_bnd hw
        have hw := cW_ok hw
        have hw := hK2413 _ hw
        exact ⟨(cell_2401), ((digits_2402) ++ [(((((cell_2401 * 48271) + (((x2409 + 1) * (x2409 + 5)) * 69621)) + ((cell_2401 / 97) * x2409)) % 2147483647) % base')]), _, _, rfl, eG2408, S2436, h2435, hw⟩
    · intro σ H2438 hw
      obtain ⟨cell_2401, digits_2402, u2403, G2441, rfl, eG2442, S2439, h2440, hw⟩ := hw
      have hw := hK2400 _ (cW_forS0 (rng_len _ _).symm hw)
      have hw : cW (F__law_digits_r1  (cell_2401) (digits_2402)) _ EE := hw
      unfold F__law_digits_r1 at hw
      refine ⟨_, rfl, ?_⟩
      have hw := cW_ok hw
      exact hK0 _ hw _ _ fr2393 S2439.b0 h2440

abbrev N__law_is_square : List Str := ["actual", "size", "row", "item"]
theorem sc__law_is_square : FnScope N__law_is_square ["actual", "size"] (defScope s__law_is_square) := ⟨rfl, rfl, rfl, by decide +kernel, rfl, by decide +kernel, by decide +kernel⟩
theorem ok__law_is_square (D : DefX K mg "_law_is_square" s__law_is_square ["actual", "size"] pats__law_is_square) (T : Txt K mg AD)  : CalX P w K mg base 1 "_law_is_square" (sp__law_is_square K AD) pats__law_is_square := by
  refine D.ok sc__law_is_square (fun vs H Q E h => ?_) (fun f cdv A_ outer s H vs Q E hr h => ?_)
  · obtain ⟨G, v_actual, actual', size', rfl, _⟩ := h
    rfl
  · obtain ⟨G, v_actual, actual', size', rfl, sG, r_actual, hw⟩ := h
    refine ⟨_, (pss_cons (ps_if (PW.pt (pw_or (pt_not (pt_val (pe_callB call_isi (by rfl) T.b_isinstance (by decide +kernel) (pa_cons (pv 0) (pa_cons (pe_bltn (v := V.ty "list") (u := Value.type "list") (by rfl) T.b_list (by decide +kernel) rfl) pa_nil))))) (pw_or1 (pt_cmp (pc_neI (pe_callB (call_lenLK (K := K)) (by rfl) T.b_len (by decide +kernel) (pa_cons (pv 0) pa_nil)) (pv 1)))))) (pss_one (ps_ret pe_bl)) pss_nil)
      (pss_cons (ps_for (passes_of rfl) rfl (pi_listK (K := K) (pv 0)) (pg_name (i := 2) sc__law_is_square.nd rfl (Or.inl rfl)) (pss_cons (ps_if (PW.pt (pw_or (pt_not (pt_val (pe_callB call_isi (by rfl) T.b_isinstance (by decide +kernel) (pa_cons (pv 2) (pa_cons (pe_bltn (v := V.ty "list") (u := Value.type "list") (by rfl) T.b_list (by decide +kernel) rfl) pa_nil))))) (pw_or1 (pt_cmp (pc_neI (pe_callB (call_lenLiK (K := K)) (by rfl) T.b_len (by decide +kernel) (pa_cons (pv 2) pa_nil)) (pv 1)))))) (pss_one (ps_ret pe_bl)) pss_nil)
      (pss_one (ps_for (passes_of rfl) rfl (pi_listK (K := K) (pv 2)) (pg_name (i := 3) sc__law_is_square.nd rfl (Or.inl rfl)) (pss_one (ps_if (PW.pt (pw_or (pt_not (pt_val (pe_callB call_isi (by rfl) T.b_isinstance (by decide +kernel) (pa_cons (pv 3) (pa_cons (pe_bltn (v := V.ty "int") (u := Value.type "int") (by rfl) T.b_int (by decide +kernel) rfl) pa_nil))))) (pw_or1 (pt_val (pe_callB call_isi (by rfl) T.b_isinstance (by decide +kernel) (pa_cons (pv 3) (pa_cons (pe_bltn (v := V.ty "bool") (u := Value.type "bool") (by rfl) T.b_bool (by decide +kernel) rfl) pa_nil))))))) (pss_one (ps_ret pe_bl)) pss_nil))))))
      (pss_one (ps_ret pe_bl)))), ?_⟩
    obtain ⟨KK, EE, hK0, hE, hw⟩ := cW_gen hw
    have S0 := Sep.startG sG
    unfold F__law_is_square at hw
    obtain ⟨a2445, vs2446, rfl, h2447, d2448⟩ := rp_list r_actual
    refine ⟨_, rfl, _, _, _, _, _, rfl, (.ty _), (.base (.lst (S0.bM _ _ h2447))), rfl, _, rfl, ?_⟩
    refine iteF ?_
    refine ⟨_, rfl, _, _, _, rfl, (SqL.of (S0.bM _ _ h2447)), (by rw [d2448.len, List.length_map]), _, rfl, _, _, rfl, rfl, _, rfl, ?_⟩
    refine iteN (fun c2449 => ?_) (fun c2449 => ?_)
    · have hw := cW_neg c2449 hw
      have hw := cW_ok hw
      exact hK0 _ hw _ S0.b0
    · have hw := cW_pos c2449 hw
      obtain ⟨K2451, hK2452, hw⟩ := cW_push hw
      refine ⟨_, rfl, _, rfl, ⟨_, (SqL.of (S0.bM _ _ h2447))⟩, for_list (K := K) (a := a2445) (xs := vs2446) (fun i σ H' => ∃ (u2453 : Option V) (u2454 : Option V) (G' : Hp), σ = [some (V.ref a2445), some (V.int (size')), u2453, u2454] ∧ Same G G' ∧ Sep [] H G G' H' [] ∧ cW (forR (List.drop i (actual')) () (fun s x => F__law_is_square_b1 (size')  x)) K2451 EE) ?_ ?_ ?_ ?_⟩
      · exact ⟨_, _, _, rfl, (Same.refl _), S0, hw⟩
      · intro i σ H2455 _ hw
        obtain ⟨u2453, u2454, G2457, rfl, eG2458, S2456, hw⟩ := hw
        exact (SqL.of (S2456.bM _ _ h2447))
      · intro i x σ H2459 hj hw
        obtain ⟨u2453, u2454, G2461, rfl, eG2462, S2460, hw⟩ := hw
        obtain ⟨x2463, hx, r2464⟩ := RpAll.get d2448 hj
        obtain ⟨a2465, rfl, h2466⟩ := rp_ints r2464
        have hw := cW_forR hx hw
        have hw : cW (F__law_is_square_b1 (size')  (x2463)) _ EE := hw
        unfold F__law_is_square_b1 at hw
        obtain ⟨K2467, hK2468, hw⟩ := cW_name hw
        refine ⟨_, rfl, _, _, _, _, _, rfl, (.ty _), (.base (.lst (S2460.bM _ _ h2466))), rfl, _, rfl, ?_⟩
        refine iteF ?_
        refine ⟨_, rfl, _, _, rfl, (SqL.of (S2460.bM _ _ h2466)), _, rfl, _, _, rfl, rfl, _, rfl, ?_⟩
        refine iteN (fun c2470 => ?_) (fun c2470 => ?_)
        · have hw := cW_neg c2470 hw
          have hw := cW_ok hw
          have hw := hK2468 (.rt _) hw
          have hw := hK2452 (.rt _) hw
          have hw := cW_ok hw
          exact hK0 _ hw _ S2460.b0
        · have hw := cW_pos c2470 hw
          obtain ⟨K2471, hK2472, hw⟩ := cW_push hw
          refine ⟨_, rfl, _, rfl, ⟨_, (SqL.of (S2460.bM _ _ h2466))⟩, for_list (K := K) (a := a2465) (xs := (x2463 : List Int).map V.int) (fun i σ H' => ∃ (u2473 : Option V) (G' : Hp), σ = [some (V.ref a2445), some (V.int (size')), some (V.ref a2465), u2473] ∧ Same G2461 G' ∧ Sep [] H G G' H' [] ∧ cW (forR (List.drop i (x2463)) () (fun s x => F__law_is_square_b2   x)) K2471 EE) ?_ ?_ ?_ ?_⟩
          · exact ⟨_, _, rfl, (Same.refl _), S2460, hw⟩
          · intro i σ H2474 _ hw
            obtain ⟨u2473, G2476, rfl, eG2477, S2475, hw⟩ := hw
            exact (SqL.of (S2475.bM _ _ h2466))
          · intro i x σ H2478 hj hw
            obtain ⟨u2473, G2480, rfl, eG2481, S2479, hw⟩ := hw
            obtain ⟨x2482, hx, rfl⟩ := map_get hj
            have hw := cW_forR hx hw
            have hw : cW (F__law_is_square_b2   (x2482)) _ EE := hw
            unfold F__law_is_square_b2 at hw
            obtain ⟨K2483, hK2484, hw⟩ := cW_name hw
            refine ⟨_, rfl, _, _, _, _, _, rfl, (.ty _), (.base (.int _)), rfl, _, rfl, ?_⟩
            refine iteF ?_
            refine ⟨_, rfl, _, _, _, _, _, rfl, (.ty _), (.base (.int _)), rfl, _, rfl, ?_⟩
            refine iteF ?_
            have hw := cW_ok hw
            have hw := hK2484 _ hw
            exact ⟨_, _, rfl, eG2481, S2479, hw⟩
          · intro σ H2486 hw
            obtain ⟨u2473, G2488, rfl, eG2489, S2487, hw⟩ := hw
            have hw := cW_aftgo (hK2472 _ (cW_forR0 (by rw [List.length_map]) hw))
            have hw : cW (F__law_is_square_r2  ) _ EE := hw
            unfold F__law_is_square_r2 at hw
            have hw := cW_ok hw
            have hw := hK2468 _ hw
            exact ⟨_, _, _, rfl, (Same.trans eG2462 eG2489), S2487, hw⟩
      · intro σ H2490 hw
        obtain ⟨u2453, u2454, G2492, rfl, eG2493, S2491, hw⟩ := hw
        have hw := cW_aftgo (hK2452 _ (cW_forR0 (by rw [d2448.len, List.length_map]) hw))
        have hw : cW (F__law_is_square_r1  ) _ EE := hw
        unfold F__law_is_square_r1 at hw
        have hw := cW_ok hw
        exact hK0 _ hw _ S2491.b0

abbrev N_law : List Str := ["script", "k", "cell", "size", "quantizer", "step", "most", "levels", "kept", "residue", "turned", "order", "j", "length", "digit"]
theorem sc_law : FnScope N_law ["script"] (defScope s_law) := ⟨rfl, rfl, rfl, by decide +kernel, rfl, by decide +kernel, by decide +kernel⟩
theorem ok_law {f : Addr} {fd : FuncData} (F : FunD K "law" "law" (defArgs s_law) (defBody s_law) (defScope s_law) [] [] f fd) (T : Txt K mg AD) (c__law_cell : CalX P w K mg base 1 "_law_cell" (sp__law_cell K AD) pats__law_cell) (c__law_digits : CalX P w K mg base 1 "_law_digits" (sp__law_digits K AD) pats__law_digits) (c_residue_of : CalX P w K mg base 6 "residue_of" (sp_residue_of K AD) pats_residue_of) (c__law_is_square : CalX P w K mg base 1 "_law_is_square" (sp__law_is_square K AD) pats__law_is_square) (c_forward_square : CalX P w K mg base 5 "forward_square" (sp_forward_square K AD) pats_forward_square) (c_scan_order : CalX P w K mg base 2 "scan_order" (sp_scan_order K AD) pats_scan_order) (c__law_refused : CalX P w K mg base 7 "_law_refused" (sp__law_refused K AD) pats__law_refused) : FnG P w K mg base CX0 8 f fd ["script"] (sp_law K AD) := by
  refine FnG.bodyN F sc_law (fun vs H Q E h => ?_) (fun cdv A_ outer s H vs Q E hr h => ?_)
  · obtain ⟨a_script, script, rfl, _⟩ := h
    rfl
  · obtain ⟨a_script, script', rfl, q_script, hw, k⟩ := h
    refine ⟨_, (pss_cons (ps_for PassesOwn.never rfl (pi_range1 rfl T.b_range (pa_cons (pe_callB (call_min2 rfl) (by rfl) T.b_min (by decide +kernel) (pa_cons (pe_op op_add pe_int (pe_callB (call_lenLiK (K := K)) (by rfl) T.b_len (by decide +kernel) (pa_cons (pv 0) pa_nil))) (pa_cons pe_int pa_nil))) pa_nil)) (pg_name (i := 1) sc_law.nd rfl (Or.inl rfl)) (pss_cons (ps_set (i := 2) sc_law.nd rfl (Or.inl rfl) (pe_op op_add (vx_callX c__law_cell pat__law_cell_0 (.head _) hr (by decide) takes0 rfl (pa_cons (pv 0) (pa_cons (pv 1) pa_nil)) pk_nil) (pv 1)))
      (pss_cons (ps_set (i := 3) sc_law.nd rfl (Or.inl rfl) (pe_op op_add pe_int (pe_op op_mul pe_int (pe_op op_mod (pv 2) pe_int))))
      (pss_cons (ps_set (i := 4) sc_law.nd rfl (Or.inl rfl) (pe_op op_mod (pe_op op_fdivW (pv 2) pe_int) pe_int))
      (pss_cons (ps_set (i := 5) sc_law.nd rfl (Or.inl rfl) (pe_op op_add (pe_op op_add pe_int (pv 4)) (pe_op op_fdivW (pe_op op_mul (pv 4) (pv 4)) pe_int)))
      (pss_cons (ps_set (i := 6) sc_law.nd rfl (Or.inr rfl) (pe_ix (ix_listK (K := K)) (pe_lst (pa_cons pe_int (pa_cons pe_int (pa_cons pe_int pa_nil)))) (pe_op op_mod (pe_op op_fdivW (pv 2) pe_int) pe_int) (fun _ _ => rfl)))
      (pss_cons (ps_setLc (i := 7) (y := "levels") rfl sc_law.nd rfl rfl (sw_true rfl rfl rfl (by decide +kernel)) (own := [("digit", 14)]) (g := gName 14) (pi_listK (K := K) (vx_callX c__law_digits pat__law_digits_0 (.head _) hr (by decide) takes0 rfl (pa_cons (pe_op op_fdivW (pv 2) pe_int) (pa_cons (pe_op op_add (pe_op op_mul pe_int (pv 6)) pe_int) (pa_cons (pe_op op_mul (pv 3) (pv 3)) pa_nil))) pk_nil)) (blkOk_by (own := [("digit", 14)]) (N := N_law) (sc := defScope s_law) (by decide +kernel)) (fun _ _ _ _ _ => (pg_name (i := 14) sc_law.nd rfl (Or.inl rfl))) (fun _ _ _ _ _ => pts_nil) (fun _ _ _ _ _ => (pe_op op_sub (pv 14) (pv 6))))
      (C8.pss_cut (ps_if (pt_cmp (pc_eqI (pe_op op_mod (pe_op op_fdivW (pv 2) pe_int) pe_int) pe_int)) (pss_cons (ps_set (i := 7) sc_law.nd rfl (Or.inl rfl) (pe_op op_rep (pe_lst (pa_cons pe_int pa_nil)) (pe_op op_mul (pv 3) (pv 3))))
      (pss_one (ps_asg (pv 6) (pg_sub (pv 7) (pe_op op_mod (pe_op op_fdivW (pv 2) pe_int) (pe_op op_mul (pv 3) (pv 3))) set_list)))) pss_nil)
      (pss_cons (ps_set (i := 8) sc_law.nd rfl (Or.inl rfl) (pe_callTy (call_listLK (K := K)) (by rfl) T.b_list (by decide +kernel) (pa_cons (pv 7) pa_nil)))
      (pss_cons (ps_set (i := 9) sc_law.nd rfl (Or.inl rfl) (vx_callX c_residue_of pat_residue_of_0 (.head _) hr (by decide) takes0 rfl (pa_cons (pv 7) (pa_cons (pv 4) pa_nil)) pk_nil))
      (pss_cons (ps_if (PW.pt (pw_or (pt_not (pt_val (vx_callX c__law_is_square pat__law_is_square_0 (.head _) hr (by decide) takes0 rfl (pa_cons (pv 9) (pa_cons (pv 3) pa_nil)) pk_nil))) (pw_or1 (pt_cmpR (op_neT (encOk_L encOk_int) hr.units) (pv 7) (pv 8) (nomark _))))) (pss_one (ps_ret pe_bl)) pss_nil)
      (pss_cons (ps_set (i := 10) sc_law.nd rfl (Or.inl rfl) (vx_callX c_forward_square pat_forward_square_0 (.head _) hr (by decide) takes0 rfl (pa_cons (pv 9) pa_nil) pk_nil))
      (pss_cons (ps_set (i := 11) sc_law.nd rfl (Or.inl rfl) (vx_callX c_scan_order pat_scan_order_0 (.head _) hr (by decide) takes0 rfl (pa_cons (pv 3) pa_nil) pk_nil))
      (pss_cons (ps_for PassesOwn.never rfl (pi_range1 rfl T.b_range (pa_cons (pe_op op_mul (pv 3) (pv 3)) pa_nil)) (pg_name (i := 12) sc_law.nd rfl (Or.inl rfl)) (pss_one (ps_if (pt_cmp (pc_neI (pe_ix (ix_listK (K := K)) (pe_ix (ix_listK (K := K)) (pv 10) (pe_ix (ix_tupK (K := K)) (pe_ix (ix_listK (K := K)) (pv 11) (pv 12) (fun _ _ => rfl)) pe_int (fun _ _ => rfl)) (fun _ _ => rfl)) (pe_ix (ix_tupK (K := K)) (pe_ix (ix_listK (K := K)) (pv 11) (pv 12) (fun _ _ => rfl)) pe_int (fun _ _ => rfl)) (fun _ _ => rfl)) (pe_op op_mul (pe_ix (ix_listK (K := K)) (pv 8) (pv 12) (fun _ _ => rfl)) (pv 5)))) (pss_one (ps_ret pe_bl)) pss_nil)))
      (pss_cons (ps_set (i := 13) sc_law.nd rfl (Or.inl rfl) (pe_op op_mod (pe_op op_fdivW (pv 2) pe_int) pe_int))
      (C8.pss_cut (ps_if (PW.pt (pw_or (pt_cmp (pc_eqI (pv 13) pe_int)) (pw_or1 (pt_cmp (pc_eqI (pv 13) pe_int))))) (pss_one (ps_set (i := 13) sc_law.nd rfl (Or.inl rfl) pe_int)) pss_nil)
      (pss_cons (ps_if (pt_not (pt_val (vx_callX c__law_refused pat__law_refused_0 (.head _) hr (by decide) takes0 rfl (pa_cons (pe_op op_rep (pe_lst (pa_cons pe_int pa_nil)) (pv 13)) (pa_cons (pv 4) pa_nil)) pk_nil))) (pss_one (ps_ret pe_bl)) pss_nil)
      (pss_one (ps_if (PW.pt (pw_or (pt_not (pt_val (vx_callX c__law_refused pat__law_refused_0 (.head _) hr (by decide) takes0 rfl (pa_cons (pv 7) (pa_cons (pe_op op_add pe_int (pe_op op_mod (pv 2) pe_int)) pa_nil)) pk_nil))) (pw_or1 (pt_not (pt_val (vx_callX c__law_refused pat__law_refused_0 (.head _) hr (by decide) takes0 rfl (pa_cons (pv 7) (pa_cons (pe_op op_sub (pe_un un_neg pe_int) (pe_op op_mod (pv 2) pe_int)) pa_nil)) pk_nil)))))) (pss_one (ps_ret pe_bl)) pss_nil)))))))))))))))))))
      (pss_one (ps_ret pe_bl))), ?_⟩
    obtain ⟨KK, EE, hK0, hE, hw⟩ := cW_gen hw
    have S0 := Sep.start0 H
    unfold F_law at hw
    obtain ⟨g2494, hw⟩ := cW_grd hw
    obtain ⟨K2496, hK2497, hw⟩ := cW_push hw
    refine ⟨_, rfl, _, _, rfl, (S0.b0.seq q_script), _, _, rfl, rfl, _, _, rfl, _, rfl, g2494.1, g2494.2, for_range (lo := 0) (n := Int.toNat ((if 6 < (1 + (((script') : (List Int)).length : Int)) then 6 else (1 + (((script') : (List Int)).length : Int))))) (fun i σ H' => ∃ (u2498 : Option V) (u2499 : Option V) (u2500 : Option V) (u2501 : Option V) (u2502 : Option V) (u2503 : Option V) (u2504 : Option V) (u2505 : Option V) (u2506 : Option V) (u2507 : Option V) (u2508 : Option V) (u2509 : Option V) (u2510 : Option V) (G' : Hp), σ = [some (V.ref a_script), u2498, u2499, u2500, u2501, u2502, u2503, u2504, u2505, u2506, u2507, u2508, u2509, u2510, none] ∧ Same H G' ∧ Sep [] H H G' H' [] ∧ cW (forR (List.drop i (rng (0) (Int.toNat ((if 6 < (1 + (((script') : (List Int)).length : Int)) then 6 else (1 + (((script') : (List Int)).length : Int))))))) () (fun s x => F_law_b1 (script')  x)) K2496 EE) ?_ ?_ ?_⟩
    · exact ⟨_, _, _, _, _, _, _, _, _, _, _, _, _, _, rfl, (Same.refl _), S0, hw⟩
    · intro i σ H2511 hi hw
      obtain ⟨u2498, u2499, u2500, u2501, u2502, u2503, u2504, u2505, u2506, u2507, u2508, u2509, u2510, G2513, rfl, eG2514, S2512, hw⟩ := hw
      have hw := cW_forR (rng_get hi) hw
      generalize (0 + (i : Int)) = x2515 at hw ⊢
      have hw : cW (F_law_b1 (script')  (x2515)) _ EE := hw
      unfold F_law_b1 at hw
      obtain ⟨K2516, hK2517, hw⟩ := cW_name hw
      refine ⟨_, rfl, _, rfl, rfl, rfl, G2513, _, _, _, rfl, S2512.sG, (S2512.b0.seq q_script), cW_call hw (fun v2519 hw => ?_) (fun e he => (hE e he).elim)⟩
      refine ⟨_, rfl, _, _, rfl, rfl, ?_⟩
      have hw := cW_bnd hw
      refine ⟨_, rfl, _, _, rfl, rfl, (show (0 : Int) < 2 by decide), _, _, rfl, rfl, (.inl ⟨by decide, by decide⟩), _, _, rfl, rfl, ?_⟩
      have hw := cW_bnd hw
      refine ⟨_, rfl, _, _, rfl, rfl, (divW_lit (by decide) (by decide)), _, _, rfl, rfl, (show (0 : Int) < 32 by decide), ?_⟩
      have hw := cW_bnd hw
      obtain ⟨g2523, hw⟩ := cW_grd hw
      refine ⟨_, rfl, _, _, rfl, rfl, _, rfl, _, rfl, _, _, rfl, rfl, g2523, _, _, rfl, rfl, (divW_lit (by decide) (by decide)), _, _, rfl, rfl, ?_⟩
      have hw := cW_bnd hw
      refine ⟨(by show 3 ≤ sizeLine; decide), fun p2525 n2526 => ?_⟩
      generalize g2527 : upd H2511 p2525 _ = H2528
      obtain ⟨e2529, h2530⟩ := gen_new n2526 g2527
      have h2531 : H2528 p2525 = some (.lst (([3, 2000, 524287] : (List Int)).map V.int)) := h2530
      have fr2532 := S2512.free n2526
      have S2533 := S2512.new n2526 e2529 h2531 fr2532
      obtain ⟨g2534, hw⟩ := cW_grd hw
      refine ⟨_, rfl, _, _, rfl, rfl, (divW_lit (by decide) (by decide)), _, _, rfl, rfl, (show (0 : Int) < 3 by decide), _, _, _, _, rfl, rfl, (SqL.of h2531), (atI_map g2534), ?_⟩
      have hw := cW_bnd hw
      obtain ⟨g2536, hw⟩ := cW_grd hw
      refine ⟨_, rfl, _, _, rfl, rfl, (divW_lit (by decide) (by decide)), _, rfl, _, _, rfl, rfl, (.inl ⟨by decide, by decide⟩), _, _, rfl, rfl, _, rfl, _, rfl, _, _, rfl, rfl, g2536, rfl, rfl, G2513, _, _, _, rfl, S2533.sG, cW_call hw (fun v2537 hw p2540 H2538 n2541 e2539 h2542 => ?_) (fun e he => (hE e he).elim)⟩
      have h2543 : H2538 p2540 = some (.lst ((v2537 : (List Int)).map V.int)) := h2542
      have fr2544 := S2533.free n2541
      have S2545 := S2533.new n2541 e2539 h2543 fr2544
      obtain ⟨K2548, hK2549, hw⟩ := cW_push hw
      refine ⟨_, rfl, ⟨_, (SqL.of h2543)⟩, fun D2550 n2551 => lc_list (K := K) (a := p2540) (xs := (v2537 : (List Int)).map V.int) (fun i H' => ∃ (G' : Hp) (acc2553 : (List Int)), Same G2513 G' ∧ Sep [] H H G' H' [D2550, p2540] ∧ H' p2540 = some (.lst ((v2537 : (List Int)).map V.int)) ∧ H' D2550 = some (.lst ((acc2553 : (List Int)).map V.int)) ∧ Same H2538 H' ∧ cW (mapA (List.drop i (v2537)) acc2553 (fun x => noEr (F_law_c2 ((itD ([3, 2000, 524287]) ((((v2519 + x2515) / 5) % 3)))) x))) K2548 EE) ?_ ?_ ?_ ?_⟩
      · generalize g2555 : upd H2538 D2550 _ = H2556
        obtain ⟨e2557, h2558⟩ := gen_new n2551 g2555
        have fr2559 := S2545.free n2551
        have S2560 := S2545.new n2551 e2557 h2558 fr2559
        have h2561 := (e2557 _ _ h2543)
        exact ⟨_, [], Same.refl _, (S2560.sub (all_cons (.head _) (all_cons (.tail _ (.head _)) all_nil))), h2561, h2558, e2557, hw⟩
      · intro i H2562 _ hw
        obtain ⟨G2565, acc2567, eG2566, S2563, h2574, h2564, eo2573, hw⟩ := hw
        exact (SqL.of h2574)
      · intro i x H2575 hj hw
        obtain ⟨G2578, acc2580, eG2579, S2576, h2587, h2577, eo2586, hw⟩ := hw
        obtain ⟨x2588, hx, rfl⟩ := map_get hj
        obtain ⟨z2589, hw⟩ := cW_mapA hx hw
        have hw := cW_noEr hw
        have hw : cW (F_law_c2 ((itD ([3, 2000, 524287]) ((((v2519 + x2515) / 5) % 3)))) (x2588)) _ (fun _ => False) := hw
        unfold F_law_c2 at hw
        refine ⟨rfl, ?_⟩
        refine tyes_go ?_
        refine ⟨_, rfl, _, rfl, _, _, rfl, rfl, _, h2577, (app_lenM z2589), ?_⟩
        generalize g2591 : upd H2575 D2550 _ = H2592
        obtain ⟨x2593, h2594⟩ := gen_mut g2591
        have S2595 := S2576.mut1 x2593 (.head _) h2594
        have hw := cW_ok hw
        have h2596 := (x2593 _ _ h2587 (ne_of_none h2543 n2551))
        exact ⟨_, (acc2580 ++ [(x2588 - (itD ([3, 2000, 524287]) ((((v2519 + x2515) / 5) % 3))))]), eG2579, S2595, h2596, (snoc_map h2594), (same_mut eo2586 x2593 n2551), hw⟩
      intro H2597 hw
      obtain ⟨G2600, acc2602, eG2601, S2598, h2609, h2599, eo2608, hw⟩ := hw
      have hw := hK2549 _ (cW_mapA0 (by rw [List.length_map]) hw)
      have fr2610 := S2545.free n2551
      refine ⟨fun σ H' => ∃ (p2617 : Addr) (levels_2616 : (List Int)) (G' : Hp), σ = [some (V.ref a_script), some (V.int (x2515)), some (V.int ((v2519 + x2515))), some (V.int ((4 + (4 * ((v2519 + x2515) % 2))))), some (V.int ((((v2519 + x2515) / 2) % 32))), some (V.int (((1 + (((v2519 + x2515) / 2) % 32)) + (((((v2519 + x2515) / 2) % 32) * (((v2519 + x2515) / 2) % 32)) / 4)))), some (V.int ((itD ([3, 2000, 524287]) ((((v2519 + x2515) / 5) % 3))))), some (V.ref p2617), u2505, u2506, u2507, u2508, u2509, u2510, none] ∧ Same G2600 G' ∧ Sep [] H H G' H' [p2617] ∧ H' p2617 = some (.lst ((levels_2616 : (List Int)).map V.int)) ∧ H p2617 = none ∧ cW (F_law_k3 ((v2519 + x2515)) ((4 + (4 * ((v2519 + x2515) % 2)))) ((((v2519 + x2515) / 2) % 32)) (((1 + (((v2519 + x2515) / 2) % 32)) + (((((v2519 + x2515) / 2) % 32) * (((v2519 + x2515) / 2) % 32)) / 4))) levels_2616) K2516 EE, ?_, ?_⟩
      · obtain ⟨K2618, hK2619, hw⟩ := cW_push hw
        refine ⟨_, rfl, _, _, rfl, rfl, (divW_lit (by decide) (by decide)), _, _, rfl, rfl, (show (0 : Int) < 4 by decide), _, _, rfl, rfl, _, rfl, ?_⟩
        refine iteD (fun c2620 => ?_) (fun c2620 => ?_)
        · have hw := cW_pos c2620 hw
          refine ⟨(by show 1 ≤ sizeLine; decide), fun p2621 n2622 => ?_⟩
          generalize g2623 : upd H2597 p2621 _ = H2624
          obtain ⟨e2625, h2626⟩ := gen_new n2622 g2623
          have h2627 : H2624 p2621 = some (.lst (([0] : (List Int)).map V.int)) := h2626
          have fr2628 := S2598.free n2622
          have S2629 := S2598.new n2622 e2625 h2627 fr2628
          obtain ⟨g2630, hw⟩ := cW_grd hw
          obtain ⟨g2631, hw⟩ := cW_grd hw
          refine ⟨_, rfl, _, rfl, _, _, rfl, rfl, g2630, _, _, _, rfl, rfl, h2627, g2631.1, g2631.2.1, (rep_lenM g2631.2.2), fun p2632 n2633 => ?_⟩
          generalize g2634 : upd H2624 p2632 _ = H2635
          obtain ⟨e2636, h2637⟩ := gen_new n2633 g2634
          have h2638 : H2635 p2632 = some (.lst ((repL ([0]) (((4 + (4 * ((v2519 + x2515) % 2))) * (4 + (4 * ((v2519 + x2515) % 2))))) : (List Int)).map V.int)) := rep_map h2637
          have fr2639 := S2629.free n2633
          have S2640 := S2629.new n2633 e2636 h2638 fr2639
          obtain ⟨g2641, hw⟩ := cW_grd hw
          obtain ⟨g2642, hw⟩ := cW_grd hw
          obtain ⟨g2643, hw⟩ := cW_grd hw
          refine ⟨_, rfl, _, rfl, _, rfl, _, _, rfl, rfl, (divW_lit (by decide) (by decide)), _, rfl, _, rfl, _, _, rfl, rfl, g2641, _, _, rfl, rfl, g2642, _, _, _, _, rfl, rfl, h2638, (ixN_map g2643), ?_⟩
          generalize g2644 : upd H2635 p2632 _ = H2645
          obtain ⟨x2646, h2647⟩ := gen_mut g2644
          have h2648 : H2645 p2632 = some (.lst ((setL (repL ([0]) (((4 + (4 * ((v2519 + x2515) % 2))) * (4 + (4 * ((v2519 + x2515) % 2)))))) ((((v2519 + x2515) / 11) % ((4 + (4 * ((v2519 + x2515) % 2))) * (4 + (4 * ((v2519 + x2515) % 2)))))) ((itD ([3, 2000, 524287]) ((((v2519 + x2515) / 5) % 3)))) : (List Int)).map V.int)) := set_map h2647
          have S2649 := S2640.mut1 x2646 (.head _) h2648
          have hw := cW_bnd hw
          have hw := cW_ok hw
          have hw := hK2619 _ hw
          exact ⟨_, (setL (repL ([0]) (((4 + (4 * ((v2519 + x2515) % 2))) * (4 + (4 * ((v2519 + x2515) % 2)))))) ((((v2519 + x2515) / 11) % ((4 + (4 * ((v2519 + x2515) % 2))) * (4 + (4 * ((v2519 + x2515) % 2)))))) ((itD ([3, 2000, 524287]) ((((v2519 + x2515) / 5) % 3))))), _, rfl, (Same.refl _), (S2649.sub (all_cons (.head _) all_nil)), h2648, fr2639, hw⟩
        · have hw := cW_neg c2620 hw
          have hw := cW_ok hw
          have hw := hK2619 _ hw
          exact ⟨_, (acc2602), _, rfl, (Same.refl _), (S2598.sub (all_cons (.head _) all_nil)), h2599, fr2610, hw⟩
      · intro σ H2651 hw
        obtain ⟨p2617, levels_2616, G2655, rfl, eG2656, S2652, h2653, fr2654, hw⟩ := hw
        unfold F_law_k3 at hw
        refine ⟨_, rfl, _, _, rfl, (SqL.of h2653), fun p2657 n2658 => ?_⟩
        generalize g2659 : upd H2651 p2657 _ = H2660
        obtain ⟨e2661, h2662⟩ := gen_new n2658 g2659
        have h2663 : H2660 p2657 = some (.lst ((levels_2616 : (List Int)).map V.int)) := h2662
        have fr2664 := S2652.free n2658
        have S2665 := S2652.new n2658 e2661 h2663 fr2664
        have h2666 := (e2661 _ _ h2653)
        refine ⟨_, rfl, _, rfl, rfl, rfl, G2655, _, _, _, rfl, S2665.sG, (hide_nil h2666), cW_call hw (fun v2667 hw H2668 a2670 vs2671 L2672 G2673 n2674 nb2675 nd2676 e2669 eG2677 sG2678 hn2679 ga2680 gL2681 h2682 w2683 => ?_) (fun e he => (hE e he).elim)⟩
        have fr2684 := S2665.free n2674
        have S2685 : Sep _ _ _ _ H2668 (a2670 :: (L2672 ++ (p2657 :: (p2617 :: [])))) := Sep.steptree S2665 e2669 eG2677 sG2678 hn2679 (a2670 :: L2672) (all_cons ⟨n2674, ga2680, some_ne h2682⟩ (fun b hb => ⟨nb2675 b hb, gL2681 b hb, OwAll.there w2683 b hb⟩))
        refine ⟨_, rfl, _, rfl, rfl, rfl, G2673, _, _, _, rfl, S2685.sG, (Rp.hide_nil (rp_mk_list h2682 (OwAll.rpA w2683 (encO_L encO_I) S2685.sG))), cW_call hw (fun v2686 hw H2687 e2688 => ?_) (fun e he => (hE e he).elim)⟩
        have S2689 := S2685.same e2688
        refine ⟨_, rfl, ?_⟩
        refine iteBN (fun c2690 => ?_) (fun c2690 => ?_)
        · have hw := cW_negB c2690 hw
          refine iteT ?_
          have hw := cW_ok hw
          have hw := hK2517 (.rt _) hw
          have hw := hK2497 (.rt _) hw
          have hw := cW_ok hw
          exact eq_bl (k _) (hK0 _ hw).symm
        · have hw := cW_pos c2690 hw
          have h2691 := (e2688 _ _ (e2669 _ _ h2666))
          have h2692 := (e2688 _ _ (e2669 _ _ h2663))
          refine ⟨_, rfl, _, rfl, _, _, (rp_mk_ints h2691), (rp_mk_ints h2692), _, rfl, ?_⟩
          refine iteN (fun c2693 => ?_) (fun c2693 => ?_)
          · have hw := cW_neg c2693 hw
            have hw := cW_ok hw
            have hw := hK2517 (.rt _) hw
            have hw := hK2497 (.rt _) hw
            have hw := cW_ok hw
            exact eq_bl (k _) (hK0 _ hw).symm
          · have hw := cW_pos c2693 hw
            have h2694 := (e2688 _ _ h2682)
            have w2695 : OwAll G2673 H2687 L2672 (vs2671) ((v2667 : (List (List Int))).map (oL oI)) := (OwAll.mono (Same.refl _) (keeps_same e2688) w2683)
            refine ⟨_, rfl, rfl, rfl, G2673, _, _, rfl, S2689.sG, (Rp.hide_nil (rp_mk_list h2694 (OwAll.rpA w2695 (encO_L encO_I) S2689.sG))), cW_call hw (fun v2696 hw H2697 a2699 vs2700 L2701 G2702 n2703 nb2704 nd2705 e2698 eG2706 sG2707 hn2708 ga2709 gL2710 h2711 w2712 => ?_) (fun e he => (hE e he).elim)⟩
            have fr2713 := S2689.free n2703
            have S2714 : Sep _ _ _ _ H2697 (a2699 :: (L2701 ++ (a2670 :: (L2672 ++ (p2657 :: (p2617 :: [])))))) := Sep.steptree S2689 e2698 eG2706 sG2707 hn2708 (a2699 :: L2701) (all_cons ⟨n2703, ga2709, some_ne h2711⟩ (fun b hb => ⟨nb2704 b hb, gL2710 b hb, OwAll.there w2712 b hb⟩))
            refine ⟨_, rfl, rfl, rfl, G2702, _, rfl, S2714.sG, cW_call hw (fun v2715 hw v2718 H2716 G2719 e2717 eG2720 sG2721 hn2722 r2723 => ?_) (fun e he => (hE e he).elim)⟩
            have S2724 := S2714.step e2717 eG2720 sG2721 hn2722
            obtain ⟨a2725, vs2726, rfl, h2727, d2728⟩ := rp_list r2723
            obtain ⟨g2729, hw⟩ := cW_grd hw
            obtain ⟨g2730, hw⟩ := cW_grd hw
            obtain ⟨K2738, hK2739, hw⟩ := cW_push hw
            refine ⟨_, rfl, _, rfl, _, _, rfl, rfl, g2729, _, rfl, g2730.1, g2730.2, for_range (lo := 0) (n := Int.toNat (((4 + (4 * ((v2519 + x2515) % 2))) * (4 + (4 * ((v2519 + x2515) % 2)))))) (fun i σ H' => ∃ (u2740 : Option V) (G' : Hp), σ = [some (V.ref a_script), some (V.int (x2515)), some (V.int ((v2519 + x2515))), some (V.int ((4 + (4 * ((v2519 + x2515) % 2))))), some (V.int ((((v2519 + x2515) / 2) % 32))), some (V.int (((1 + (((v2519 + x2515) / 2) % 32)) + (((((v2519 + x2515) / 2) % 32) * (((v2519 + x2515) / 2) % 32)) / 4)))), some (V.int ((itD ([3, 2000, 524287]) ((((v2519 + x2515) / 5) % 3))))), some (V.ref p2617), some (V.ref p2657), some (V.ref a2670), some (V.ref a2699), some (V.ref a2725), u2740, u2510, none] ∧ Same G2719 G' ∧ Sep [] H H G' H' (p2617 :: (p2657 :: (a2670 :: (a2699 :: (L2672 ++ (L2701 ++ [])))))) ∧ H' p2617 = some (.lst ((levels_2616 : (List Int)).map V.int)) ∧ H' p2657 = some (.lst ((levels_2616 : (List Int)).map V.int)) ∧ H' a2670 = some (.lst (vs2671)) ∧ H' a2699 = some (.lst (vs2700)) ∧ OwAll G' H' L2672 (vs2671) ((v2667 : (List (List Int))).map (oL oI)) ∧ OwAll G' H' L2701 (vs2700) ((v2696 : (List (List Int))).map (oL oI)) ∧ cW (forR (List.drop i (rng (0) (Int.toNat (((4 + (4 * ((v2519 + x2515) % 2))) * (4 + (4 * ((v2519 + x2515) % 2)))))))) () (fun s x => F_law_b4 (((1 + (((v2519 + x2515) / 2) % 32)) + (((((v2519 + x2515) / 2) % 32) * (((v2519 + x2515) / 2) % 32)) / 4))) (levels_2616) (v2696) (v2715)  x)) K2738 EE) ?_ ?_ ?_⟩
            · have h2741 := (e2717 _ _ (e2698 _ _ h2691))
              have h2742 := (e2717 _ _ (e2698 _ _ h2692))
              have h2743 := (e2717 _ _ (e2698 _ _ h2694))
              have h2744 := (e2717 _ _ h2711)
              have w2745 : OwAll G2719 H2716 L2672 (vs2671) ((v2667 : (List (List Int))).map (oL oI)) := (OwAll.mono (Same.trans eG2706 eG2720) keeps_refl (OwAll.mono (Same.refl _) (keeps_same e2717) (OwAll.mono (Same.refl _) (keeps_same e2698) w2695)))
              have w2746 : OwAll G2719 H2716 L2701 (vs2700) ((v2696 : (List (List Int))).map (oL oI)) := (OwAll.mono eG2720 keeps_refl (OwAll.mono (Same.refl _) (keeps_same e2717) w2712))
              exact ⟨_, _, rfl, (Same.refl _), (S2724.sub (all_cons (.tail _ (List.mem_append_right _ (.tail _ (List.mem_append_right _ (.tail _ (.head _)))))) (all_cons (.tail _ (List.mem_append_right _ (.tail _ (List.mem_append_right _ (.head _))))) (all_cons (.tail _ (List.mem_append_right _ (.head _))) (all_cons (.head _) (all_app ((fun b hb => (.tail _ (List.mem_append_right _ (.tail _ (List.mem_append_left _ hb))))) : ∀ b ∈ L2672, b ∈ (a2699 :: (L2701 ++ (a2670 :: (L2672 ++ (p2657 :: (p2617 :: []))))))) (all_app ((fun b hb => (.tail _ (List.mem_append_left _ hb))) : ∀ b ∈ L2701, b ∈ (a2699 :: (L2701 ++ (a2670 :: (L2672 ++ (p2657 :: (p2617 :: []))))))) all_nil))))))), h2741, h2742, h2743, h2744, w2745, w2746, hw⟩
            · intro i σ H2747 hi hw
              obtain ⟨u2740, G2755, rfl, eG2756, S2748, h2749, h2750, h2751, h2752, w2753, w2754, hw⟩ := hw
              have hw := cW_forR (rng_get hi) hw
              generalize (0 + (i : Int)) = x2757 at hw ⊢
              have hw : cW (F_law_b4 (((1 + (((v2519 + x2515) / 2) % 32)) + (((((v2519 + x2515) / 2) % 32) * (((v2519 + x2515) / 2) % 32)) / 4))) (levels_2616) (v2696) (v2715)  (x2757)) _ EE := hw
              unfold F_law_b4 at hw
              obtain ⟨K2758, hK2759, hw⟩ := cW_name hw
              obtain ⟨g2761, hw⟩ := cW_grd hw
              obtain ⟨v2762, a2763, r2764⟩ := RpAll.ixD (k := x2757) (RpAll.mono eG2756 d2728) g2761
              obtain ⟨a2765, v2767, v2768, rfl, h2766, r2769, r2770⟩ := rp_tup2 r2764
              obtain rfl := rp_int r2769
              obtain rfl := rp_int r2770
              obtain ⟨g2771, hw⟩ := cW_grd hw
              obtain ⟨v2772, L2773, a2774, w2775, hs2776, up2777, gr2778⟩ := OwAll.partM (k := (itD (v2715) (x2757)).1) w2754 g2771
              obtain ⟨b2779, rfl, rfl, h2780⟩ := Ow.toInts w2775
              obtain ⟨g2781, hw⟩ := cW_grd hw
              obtain ⟨v2782, a2783, r2784⟩ := RpAll.ixD (k := x2757) (RpAll.mono eG2756 d2728) g2781
              obtain ⟨a2785, v2787, v2788, rfl, h2786, r2789, r2790⟩ := rp_tup2 r2784
              obtain rfl := rp_int r2789
              obtain rfl := rp_int r2790
              obtain ⟨g2791, hw⟩ := cW_grd hw
              obtain ⟨g2792, hw⟩ := cW_grd hw
              obtain ⟨g2793, hw⟩ := cW_grd hw
              refine ⟨_, rfl, _, rfl, _, rfl, _, _, _, _, rfl, rfl, (SqL.of (S2748.sG _ _ (eG2756 _ _ h2727))), a2763, _, _, _, _, rfl, rfl, (SqT.of (S2748.sG _ _ h2766)), rfl, _, _, _, _, rfl, rfl, (SqL.of h2752), a2774, _, rfl, _, rfl, _, _, _, _, rfl, rfl, (SqL.of (S2748.sG _ _ (eG2756 _ _ h2727))), a2783, _, _, _, _, rfl, rfl, (SqT.of (S2748.sG _ _ h2786)), rfl, _, _, _, _, rfl, rfl, (SqL.of h2780), (atI_map g2791), _, rfl, _, rfl, _, _, _, _, rfl, rfl, (SqL.of h2750), (atI_map g2792), _, rfl, _, _, rfl, rfl, g2793, _, _, rfl, rfl, _, rfl, ?_⟩
              refine iteN (fun c2794 => ?_) (fun c2794 => ?_)
              · have hw := cW_neg c2794 hw
                have hw := cW_ok hw
                have hw := hK2759 (.rt _) hw
                have hw := hK2739 (.rt _) hw
                have hw := cW_ok hw
                have hw := hK2517 (.rt _) hw
                have hw := hK2497 (.rt _) hw
                have hw := cW_ok hw
                exact eq_bl (k _) (hK0 _ hw).symm
              · have hw := cW_pos c2794 hw
                have hw := cW_ok hw
                have hw := hK2759 _ hw
                exact ⟨_, _, rfl, eG2756, S2748, h2749, h2750, h2751, h2752, w2753, w2754, hw⟩
            · intro σ H2795 hw
              obtain ⟨u2740, G2803, rfl, eG2804, S2796, h2797, h2798, h2799, h2800, w2801, w2802, hw⟩ := hw
              have hw := cW_aftgo (hK2739 _ (cW_forR0 (rng_len _ _).symm hw))
              have hw : cW (F_law_r4 ((v2519 + x2515)) ((((v2519 + x2515) / 2) % 32)) (levels_2616) ) _ EE := hw
              unfold F_law_r4 at hw
              refine ⟨_, rfl, _, _, rfl, rfl, (divW_lit (by decide) (by decide)), _, _, rfl, rfl, (show (0 : Int) < 80 by decide), ?_⟩
              have hw := cW_bnd hw
              refine ⟨fun σ H' => ∃ (length_2810 : Int) (G' : Hp), σ = [some (V.ref a_script), some (V.int (x2515)), some (V.int ((v2519 + x2515))), some (V.int ((4 + (4 * ((v2519 + x2515) % 2))))), some (V.int ((((v2519 + x2515) / 2) % 32))), some (V.int (((1 + (((v2519 + x2515) / 2) % 32)) + (((((v2519 + x2515) / 2) % 32) * (((v2519 + x2515) / 2) % 32)) / 4)))), some (V.int ((itD ([3, 2000, 524287]) ((((v2519 + x2515) / 5) % 3))))), some (V.ref p2617), some (V.ref p2657), some (V.ref a2670), some (V.ref a2699), some (V.ref a2725), u2740, some (V.int length_2810), none] ∧ Same G2803 G' ∧ Sep [] H H G' H' (p2617 :: (p2657 :: (a2670 :: (a2699 :: (L2672 ++ (L2701 ++ [])))))) ∧ H' p2617 = some (.lst ((levels_2616 : (List Int)).map V.int)) ∧ H' p2657 = some (.lst ((levels_2616 : (List Int)).map V.int)) ∧ H' a2670 = some (.lst (vs2671)) ∧ H' a2699 = some (.lst (vs2700)) ∧ OwAll G' H' L2672 (vs2671) ((v2667 : (List (List Int))).map (oL oI)) ∧ OwAll G' H' L2701 (vs2700) ((v2696 : (List (List Int))).map (oL oI)) ∧ cW (F_law_k5 ((v2519 + x2515)) ((((v2519 + x2515) / 2) % 32)) (levels_2616) length_2810) K2516 EE, ?_, ?_⟩
              · obtain ⟨K2811, hK2812, hw⟩ := cW_push hw
                refine ⟨_, rfl, _, _, rfl, rfl, _, rfl, ?_⟩
                refine iteD (fun c2813 => ?_) (fun c2813 => ?_)
                · have hw := cW_pos c2813 hw
                  refine iteT ?_
                  have hw := cW_ok hw
                  have hw := hK2812 _ hw
                  exact ⟨(63), _, rfl, (Same.refl _), S2796, h2797, h2798, h2799, h2800, w2801, w2802, hw⟩
                · have hw := cW_neg c2813 hw
                  refine ⟨_, rfl, _, _, rfl, rfl, _, rfl, ?_⟩
                  refine iteD (fun c2814 => ?_) (fun c2814 => ?_)
                  · have hw := cW_pos c2814 hw
                    have hw := cW_ok hw
                    have hw := hK2812 _ hw
                    exact ⟨(63), _, rfl, (Same.refl _), S2796, h2797, h2798, h2799, h2800, w2801, w2802, hw⟩
                  · have hw := cW_neg c2814 hw
                    have hw := cW_ok hw
                    have hw := hK2812 _ hw
                    exact ⟨((((v2519 + x2515) / 13) % 80)), _, rfl, (Same.refl _), S2796, h2797, h2798, h2799, h2800, w2801, w2802, hw⟩
              · intro σ H2815 hw
                obtain ⟨length_2810, G2823, rfl, eG2824, S2816, h2817, h2818, h2819, h2820, w2821, w2822, hw⟩ := hw
                unfold F_law_k5 at hw
                refine ⟨(by show 1 ≤ sizeLine; decide), fun p2825 n2826 => ?_⟩
                generalize g2827 : upd H2815 p2825 _ = H2828
                obtain ⟨e2829, h2830⟩ := gen_new n2826 g2827
                have h2831 : H2828 p2825 = some (.lst (([1] : (List Int)).map V.int)) := h2830
                have fr2832 := S2816.free n2826
                have S2833 := S2816.new n2826 e2829 h2831 fr2832
                obtain ⟨g2834, hw⟩ := cW_grd hw
                refine ⟨_, rfl, _, _, _, rfl, rfl, h2831, g2834.1, g2834.2.1, (rep_lenM g2834.2.2), fun p2835 n2836 => ?_⟩
                generalize g2837 : upd H2828 p2835 _ = H2838
                obtain ⟨e2839, h2840⟩ := gen_new n2836 g2837
                have h2841 : H2838 p2835 = some (.lst ((repL ([1]) (length_2810) : (List Int)).map V.int)) := rep_map h2840
                have fr2842 := S2833.free n2836
                have S2843 := S2833.new n2836 e2839 h2841 fr2842
                refine ⟨_, rfl, rfl, rfl, G2823, _, _, _, rfl, S2843.sG, (hide_nil h2841), cW_call hw (fun v2844 hw H2845 e2846 => ?_) (fun e he => (hE e he).elim)⟩
                have S2847 := S2843.same e2846
                refine ⟨_, rfl, ?_⟩
                refine iteBN (fun c2848 => ?_) (fun c2848 => ?_)
                · have hw := cW_negB c2848 hw
                  have hw := cW_ok hw
                  have hw := hK2517 (.rt _) hw
                  have hw := hK2497 (.rt _) hw
                  have hw := cW_ok hw
                  exact eq_bl (k _) (hK0 _ hw).symm
                · have hw := cW_pos c2848 hw
                  have h2849 := (e2846 _ _ (e2839 _ _ (e2829 _ _ h2817)))
                  refine ⟨_, rfl, _, rfl, _, _, rfl, rfl, (show (0 : Int) < 9 by decide), _, _, rfl, rfl, rfl, rfl, G2823, _, _, _, rfl, S2847.sG, (hide_nil h2849), cW_call hw (fun v2850 hw H2851 e2852 => ?_) (fun e he => (hE e he).elim)⟩
                  have S2853 := S2847.same e2852
                  refine ⟨_, rfl, ?_⟩
                  refine iteBN (fun c2854 => ?_) (fun c2854 => ?_)
                  · have hw := cW_negB c2854 hw
                    refine iteT ?_
                    have hw := cW_ok hw
                    have hw := hK2517 (.rt _) hw
                    have hw := hK2497 (.rt _) hw
                    have hw := cW_ok hw
                    exact eq_bl (k _) (hK0 _ hw).symm
                  · have hw := cW_pos c2854 hw
                    have h2855 := (e2852 _ _ h2849)
                    refine ⟨_, rfl, _, rfl, _, rfl, _, _, rfl, rfl, (show (0 : Int) < 9 by decide), _, _, rfl, rfl, rfl, rfl, G2823, _, _, _, rfl, S2853.sG, (hide_nil h2855), cW_call hw (fun v2856 hw H2857 e2858 => ?_) (fun e he => (hE e he).elim)⟩
                    have S2859 := S2853.same e2858
                    refine ⟨_, rfl, ?_⟩
                    refine iteBN (fun c2860 => ?_) (fun c2860 => ?_)
                    · have hw := cW_negB c2860 hw
                      have hw := cW_ok hw
                      have hw := hK2517 (.rt _) hw
                      have hw := hK2497 (.rt _) hw
                      have hw := cW_ok hw
                      exact eq_bl (k _) (hK0 _ hw).symm
                    · have hw := cW_pos c2860 hw
                      have hw := cW_ok hw
                      have hw := hK2517 _ hw
                      exact ⟨_, _, _, _, _, _, _, _, _, _, _, _, _, _, rfl, (Same.trans (Same.trans (Same.trans (Same.trans (Same.trans (Same.trans (Same.trans eG2514 eG2601) eG2656) eG2677) eG2706) eG2720) eG2804) eG2824), (S2859.sub all_nil), hw⟩
    · intro σ H2861 hw
      obtain ⟨u2498, u2499, u2500, u2501, u2502, u2503, u2504, u2505, u2506, u2507, u2508, u2509, u2510, G2863, rfl, eG2864, S2862, hw⟩ := hw
      have hw := cW_aftgo (hK2497 _ (cW_forR0 (rng_len _ _).symm hw))
      have hw : cW (F_law_r1  ) _ EE := hw
      unfold F_law_r1 at hw
      have hw := cW_ok hw
      exact eq_bl (k _) (hK0 _ hw).symm
end
def spL (K : PySem.W.Frag) : Sp := fun vs H Q _ => ∃ (a_script : Addr) (script : List Int), vs = [.ref a_script] ∧ SqL K H a_script (script.map V.int) ∧ script.length ≤ 63 ∧ ∀ H', Q (.bl true) H'
theorem all_mk {l : PySem.W.OpenLaw} {w : World} {K : PySem.W.Frag} {h : Heap} {mg : Str → Option Value} {fa : Addr} (X : K.In h) (G : h.Ns mainGlobals mg) (hfa : mg "law" = some (.ref fa))
    {f0 f1 f2 f3 f4 f5 f6 f7 f8 f9 f10 f11 f12 f13 f14 f15 f16 f17 f18 f19 f20 f21 f22 f23 f24 XOutOfRange : Addr} {od0 an0 od1 an1 od2 an2 od3 an3 od4 an4 od5 an5 od6 an6 od7 an7 od8 an8 od9 an9 od10 an10 od11 an11 od12 an12 od13 an13 od14 an14 od15 an15 od16 an16 od17 an17 od18 an18 od19 an19 od20 an20 od21 an21 od22 an22 od23 an23 od24 an24 : Option Addr} {sl0 sl1 sl2 sl3 sl4 sl5 sl6 sl7 sl8 sl9 sl10 sl11 sl12 sl13 sl14 sl15 sl16 sl17 sl18 sl19 sl20 sl21 sl22 sl23 sl24 : Array (Option Value)} {oc0 kV0 dc0 pm0 cd0 ct0 oc1 kV1 dc1 pm1 cd1 ct1 oc2 kV2 dc2 pm2 cd2 ct2 oc3 kV3 dc3 pm3 cd3 ct3 oc4 kV4 dc4 pm4 cd4 ct4 oc5 kV5 dc5 pm5 cd5 ct5 oc6 kV6 dc6 pm6 cd6 ct6 oc7 kV7 dc7 pm7 cd7 ct7 oc8 kV8 dc8 pm8 cd8 ct8 oc9 kV9 dc9 pm9 cd9 ct9 oc10 kV10 dc10 pm10 cd10 ct10 oc11 kV11 dc11 pm11 cd11 ct11 oc12 kV12 dc12 pm12 cd12 ct12 oc13 kV13 dc13 pm13 cd13 ct13 oc14 kV14 dc14 pm14 cd14 ct14 oc15 kV15 dc15 pm15 cd15 ct15 oc16 kV16 dc16 pm16 cd16 ct16 oc17 kV17 dc17 pm17 cd17 ct17 oc18 kV18 dc18 pm18 cd18 ct18 oc19 kV19 dc19 pm19 cd19 ct19 oc20 kV20 dc20 pm20 cd20 ct20 oc21 kV21 dc21 pm21 cd21 ct21 oc22 kV22 dc22 pm22 cd22 ct22 oc23 kV23 dc23 pm23 cd23 ct23 oc24 kV24 dc24 pm24 cd24 ct24 : Value} {TG_SIZES : Addr} {td0 : Option Addr} {tn0 : Nat} {tsl0 : Array (Option Value)} {tk0_0 tk0_1 : Tok} {TG_SIZES_BY_COUNT : Addr} {tn6 : Nat} {tk6_0 tk6_1 tk6_2 tk6_3 : Tok} {tk4 : Tok}
    (vOutOfRange : PySem.W.nsIn K mainGlobals "OutOfRange" = some (some (.ref XOutOfRange))) (a0 : PySem.W.nsIn K mainGlobals "check_size" = some (some (.ref f0))) (l0 : K.lookup f0 = some ⟨oc0, od0, .func (PySem.W.fnOf "check_size" "check_size" (defArgs s_check_size) (defBody s_check_size) (defScope s_check_size) .none kV0 dc0 pm0 an0 cd0 ct0), sl0⟩) (c0 : PySem.W.codeIn K cd0 "check_size" = true) (k0 : PySem.W.keepIn K (.ref f0) = true) (a1 : PySem.W.nsIn K mainGlobals "check_square" = some (some (.ref f1))) (l1 : K.lookup f1 = some ⟨oc1, od1, .func (PySem.W.fnOf "check_square" "check_square" (defArgs s_check_square) (defBody s_check_square) (defScope s_check_square) .none kV1 dc1 pm1 an1 cd1 ct1), sl1⟩) (c1 : PySem.W.codeIn K cd1 "check_square" = true) (k1 : PySem.W.keepIn K (.ref f1) = true) (a2 : PySem.W.nsIn K mainGlobals "turn_back" = some (some (.ref f2))) (l2 : K.lookup f2 = some ⟨oc2, od2, .func (PySem.W.fnOf "turn_back" "turn_back" (defArgs s_turn_back) (defBody s_turn_back) (defScope s_turn_back) .none kV2 dc2 pm2 an2 cd2 ct2), sl2⟩) (c2 : PySem.W.codeIn K cd2 "turn_back" = true) (k2 : PySem.W.keepIn K (.ref f2) = true) (a3 : PySem.W.nsIn K mainGlobals "join_pair" = some (some (.ref f3))) (l3 : K.lookup f3 = some ⟨oc3, od3, .func (PySem.W.fnOf "join_pair" "join_pair" (defArgs s_join_pair) (defBody s_join_pair) (defScope s_join_pair) .none kV3 dc3 pm3 an3 cd3 ct3), sl3⟩) (c3 : PySem.W.codeIn K cd3 "join_pair" = true) (k3 : PySem.W.keepIn K (.ref f3) = true) (a4 : PySem.W.nsIn K mainGlobals "_inverse_four" = some (some (.ref f4))) (l4 : K.lookup f4 = some ⟨oc4, od4, .func (PySem.W.fnOf "_inverse_four" "_inverse_four" (defArgs s__inverse_four) (defBody s__inverse_four) (defScope s__inverse_four) .none kV4 dc4 pm4 an4 cd4 ct4), sl4⟩) (c4 : PySem.W.codeIn K cd4 "_inverse_four" = true) (k4 : PySem.W.keepIn K (.ref f4) = true) (a5 : PySem.W.nsIn K mainGlobals "_inverse_eight" = some (some (.ref f5))) (l5 : K.lookup f5 = some ⟨oc5, od5, .func (PySem.W.fnOf "_inverse_eight" "_inverse_eight" (defArgs s__inverse_eight) (defBody s__inverse_eight) (defScope s__inverse_eight) .none kV5 dc5 pm5 an5 cd5 ct5), sl5⟩) (c5 : PySem.W.codeIn K cd5 "_inverse_eight" = true) (k5 : PySem.W.keepIn K (.ref f5) = true) (a6 : PySem.W.nsIn K mainGlobals "inverse" = some (some (.ref f6))) (l6 : K.lookup f6 = some ⟨oc6, od6, .func (PySem.W.fnOf "inverse" "inverse" (defArgs s_inverse) (defBody s_inverse) (defScope s_inverse) .none kV6 dc6 pm6 an6 cd6 ct6), sl6⟩) (c6 : PySem.W.codeIn K cd6 "inverse" = true) (k6 : PySem.W.keepIn K (.ref f6) = true) (a7 : PySem.W.nsIn K mainGlobals "transposed" = some (some (.ref f7))) (l7 : K.lookup f7 = some ⟨oc7, od7, .func (PySem.W.fnOf "transposed" "transposed" (defArgs s_transposed) (defBody s_transposed) (defScope s_transposed) .none kV7 dc7 pm7 an7 cd7 ct7), sl7⟩) (c7 : PySem.W.codeIn K cd7 "transposed" = true) (k7 : PySem.W.keepIn K (.ref f7) = true) (a8 : PySem.W.nsIn K mainGlobals "inverse_square" = some (some (.ref f8))) (l8 : K.lookup f8 = some ⟨oc8, od8, .func (PySem.W.fnOf "inverse_square" "inverse_square" (defArgs s_inverse_square) (defBody s_inverse_square) (defScope s_inverse_square) .none kV8 dc8 pm8 an8 cd8 ct8), sl8⟩) (c8 : PySem.W.codeIn K cd8 "inverse_square" = true) (k8 : PySem.W.keepIn K (.ref f8) = true) (a9 : PySem.W.nsIn K mainGlobals "step_of" = some (some (.ref f9))) (l9 : K.lookup f9 = some ⟨oc9, od9, .func (PySem.W.fnOf "step_of" "step_of" (defArgs s_step_of) (defBody s_step_of) (defScope s_step_of) .none kV9 dc9 pm9 an9 cd9 ct9), sl9⟩) (c9 : PySem.W.codeIn K cd9 "step_of" = true) (k9 : PySem.W.keepIn K (.ref f9) = true) (a10 : PySem.W.nsIn K mainGlobals "restore_square" = some (some (.ref f10))) (l10 : K.lookup f10 = some ⟨oc10, od10, .func (PySem.W.fnOf "restore_square" "restore_square" (defArgs s_restore_square) (defBody s_restore_square) (defScope s_restore_square) .none kV10 dc10 pm10 an10 cd10 ct10), sl10⟩) (c10 : PySem.W.codeIn K cd10 "restore_square" = true) (k10 : PySem.W.keepIn K (.ref f10) = true) (a11 : PySem.W.nsIn K mainGlobals "scan_order" = some (some (.ref f11))) (l11 : K.lookup f11 = some ⟨oc11, od11, .func (PySem.W.fnOf "scan_order" "scan_order" (defArgs s_scan_order) (defBody s_scan_order) (defScope s_scan_order) .none kV11 dc11 pm11 an11 cd11 ct11), sl11⟩) (c11 : PySem.W.codeIn K cd11 "scan_order" = true) (k11 : PySem.W.keepIn K (.ref f11) = true) (a12 : PySem.W.nsIn K mainGlobals "to_square" = some (some (.ref f12))) (l12 : K.lookup f12 = some ⟨oc12, od12, .func (PySem.W.fnOf "to_square" "to_square" (defArgs s_to_square) (defBody s_to_square) (defScope s_to_square) .none kV12 dc12 pm12 an12 cd12 ct12), sl12⟩) (c12 : PySem.W.codeIn K cd12 "to_square" = true) (k12 : PySem.W.keepIn K (.ref f12) = true) (a13 : PySem.W.nsIn K mainGlobals "residue_of" = some (some (.ref f13))) (l13 : K.lookup f13 = some ⟨oc13, od13, .func (PySem.W.fnOf "residue_of" "residue_of" (defArgs s_residue_of) (defBody s_residue_of) (defScope s_residue_of) .none kV13 dc13 pm13 an13 cd13 ct13), sl13⟩) (c13 : PySem.W.codeIn K cd13 "residue_of" = true) (k13 : PySem.W.keepIn K (.ref f13) = true) (a14 : PySem.W.nsIn K mainGlobals "split_pair" = some (some (.ref f14))) (l14 : K.lookup f14 = some ⟨oc14, od14, .func (PySem.W.fnOf "split_pair" "split_pair" (defArgs s_split_pair) (defBody s_split_pair) (defScope s_split_pair) .none kV14 dc14 pm14 an14 cd14 ct14), sl14⟩) (c14 : PySem.W.codeIn K cd14 "split_pair" = true) (k14 : PySem.W.keepIn K (.ref f14) = true) (a15 : PySem.W.nsIn K mainGlobals "turn_pair" = some (some (.ref f15))) (l15 : K.lookup f15 = some ⟨oc15, od15, .func (PySem.W.fnOf "turn_pair" "turn_pair" (defArgs s_turn_pair) (defBody s_turn_pair) (defScope s_turn_pair) .none kV15 dc15 pm15 an15 cd15 ct15), sl15⟩) (c15 : PySem.W.codeIn K cd15 "turn_pair" = true) (k15 : PySem.W.keepIn K (.ref f15) = true) (a16 : PySem.W.nsIn K mainGlobals "_forward_four" = some (some (.ref f16))) (l16 : K.lookup f16 = some ⟨oc16, od16, .func (PySem.W.fnOf "_forward_four" "_forward_four" (defArgs s__forward_four) (defBody s__forward_four) (defScope s__forward_four) .none kV16 dc16 pm16 an16 cd16 ct16), sl16⟩) (c16 : PySem.W.codeIn K cd16 "_forward_four" = true) (k16 : PySem.W.keepIn K (.ref f16) = true) (a17 : PySem.W.nsIn K mainGlobals "_forward_eight" = some (some (.ref f17))) (l17 : K.lookup f17 = some ⟨oc17, od17, .func (PySem.W.fnOf "_forward_eight" "_forward_eight" (defArgs s__forward_eight) (defBody s__forward_eight) (defScope s__forward_eight) .none kV17 dc17 pm17 an17 cd17 ct17), sl17⟩) (c17 : PySem.W.codeIn K cd17 "_forward_eight" = true) (k17 : PySem.W.keepIn K (.ref f17) = true) (a18 : PySem.W.nsIn K mainGlobals "forward" = some (some (.ref f18))) (l18 : K.lookup f18 = some ⟨oc18, od18, .func (PySem.W.fnOf "forward" "forward" (defArgs s_forward) (defBody s_forward) (defScope s_forward) .none kV18 dc18 pm18 an18 cd18 ct18), sl18⟩) (c18 : PySem.W.codeIn K cd18 "forward" = true) (k18 : PySem.W.keepIn K (.ref f18) = true) (a19 : PySem.W.nsIn K mainGlobals "forward_square" = some (some (.ref f19))) (l19 : K.lookup f19 = some ⟨oc19, od19, .func (PySem.W.fnOf "forward_square" "forward_square" (defArgs s_forward_square) (defBody s_forward_square) (defScope s_forward_square) .none kV19 dc19 pm19 an19 cd19 ct19), sl19⟩) (c19 : PySem.W.codeIn K cd19 "forward_square" = true) (k19 : PySem.W.keepIn K (.ref f19) = true) (a20 : PySem.W.nsIn K mainGlobals "_law_cell" = some (some (.ref f20))) (l20 : K.lookup f20 = some ⟨oc20, od20, .func (PySem.W.fnOf "_law_cell" "_law_cell" (defArgs s__law_cell) (defBody s__law_cell) (defScope s__law_cell) .none kV20 dc20 pm20 an20 cd20 ct20), sl20⟩) (c20 : PySem.W.codeIn K cd20 "_law_cell" = true) (k20 : PySem.W.keepIn K (.ref f20) = true) (a21 : PySem.W.nsIn K mainGlobals "_law_refused" = some (some (.ref f21))) (l21 : K.lookup f21 = some ⟨oc21, od21, .func (PySem.W.fnOf "_law_refused" "_law_refused" (defArgs s__law_refused) (defBody s__law_refused) (defScope s__law_refused) .none kV21 dc21 pm21 an21 cd21 ct21), sl21⟩) (c21 : PySem.W.codeIn K cd21 "_law_refused" = true) (k21 : PySem.W.keepIn K (.ref f21) = true) (a22 : PySem.W.nsIn K mainGlobals "_law_digits" = some (some (.ref f22))) (l22 : K.lookup f22 = some ⟨oc22, od22, .func (PySem.W.fnOf "_law_digits" "_law_digits" (defArgs s__law_digits) (defBody s__law_digits) (defScope s__law_digits) .none kV22 dc22 pm22 an22 cd22 ct22), sl22⟩) (c22 : PySem.W.codeIn K cd22 "_law_digits" = true) (k22 : PySem.W.keepIn K (.ref f22) = true) (a23 : PySem.W.nsIn K mainGlobals "_law_is_square" = some (some (.ref f23))) (l23 : K.lookup f23 = some ⟨oc23, od23, .func (PySem.W.fnOf "_law_is_square" "_law_is_square" (defArgs s__law_is_square) (defBody s__law_is_square) (defScope s__law_is_square) .none kV23 dc23 pm23 an23 cd23 ct23), sl23⟩) (c23 : PySem.W.codeIn K cd23 "_law_is_square" = true) (k23 : PySem.W.keepIn K (.ref f23) = true) (a24 : PySem.W.nsIn K mainGlobals "law" = some (some (.ref f24))) (l24 : K.lookup f24 = some ⟨oc24, od24, .func (PySem.W.fnOf "law" "law" (defArgs s_law) (defBody s_law) (defScope s_law) .none kV24 dc24 pm24 an24 cd24 ct24), sl24⟩) (c24 : PySem.W.codeIn K cd24 "law" = true) (k24 : PySem.W.keepIn K (.ref f24) = true)
    (z0 : PySem.W.nsIn K mainGlobals "SIZES" = some (some (.ref TG_SIZES))) (y0 : K.lookup TG_SIZES = some ⟨.type "tuple", td0, .seq #[.int 4 tk0_0, .int 8 tk0_1] tn0, tsl0⟩) (z1 : PySem.W.nsIn K mainGlobals "len" = some none) (z2 : PySem.W.nsIn K mainGlobals "zip" = some none) (z3 : PySem.W.nsIn K mainGlobals "list" = some none) (z4 : PySem.W.nsIn K mainGlobals "GREATEST_QUANTIZER" = some (some (.int 31 tk4))) (z5 : PySem.W.nsIn K mainGlobals "range" = some none) (z6 : PySem.W.nsIn K mainGlobals "SIZES_BY_COUNT" = some (some (.ref TG_SIZES_BY_COUNT))) (y6 : K.lookup TG_SIZES_BY_COUNT = some ⟨.type "dict", none, .dict #[⟨hashInt 16, .int 16 tk6_0, .int 4 tk6_1⟩, ⟨hashInt 64, .int 64 tk6_2, .int 8 tk6_3⟩] tn6, #[]⟩) (u6 : (TG_SIZES_BY_COUNT == sysModules) = false) (z7 : PySem.W.nsIn K mainGlobals "abs" = some none) (z8 : PySem.W.nsIn K mainGlobals "int" = some none) (z9 : PySem.W.nsIn K mainGlobals "isinstance" = some none) (z10 : PySem.W.nsIn K mainGlobals "bool" = some none) (z11 : PySem.W.nsIn K mainGlobals "min" = some none) (exOutOfRange : PySem.W.excIn K XOutOfRange [.type "ValueError", .type "Exception", .type "BaseException", .type "object"] "ValueError.__new__" = true) (ekOutOfRange : PySem.W.keepIn K (.ref XOutOfRange) = true) (ebOutOfRange : PySem.W.subIn K (.ref XOutOfRange) (.type "BaseException") = some true) (etOutOfRange : PySem.W.typeIn K (.ref XOutOfRange) = some (.type "type")) (eiOutOfRangeOutOfRange : PySem.W.isClsIn K XOutOfRange = true) (esOutOfRangeOutOfRange : PySem.W.subIn K (.ref XOutOfRange) (.ref XOutOfRange) = some true) :
    ∃ fd : FuncData, (∀ (s : Shared) (v : Value), BindsTo s fd ⟨[v], []⟩ [("script", v)]) ∧ ∀ base : Heap, K.In base → base.Ns mainGlobals mg → FnG l.prog w K mg base CX0 8 fa fd ["script"] (spL K) := by
  have e := hfa.symm.trans (PySem.W.mg_of X G a24)
  cases e
  have T : Txt K mg ⟨fa, XOutOfRange, TG_SIZES, TG_SIZES_BY_COUNT, fa⟩ := ⟨⟨_, PySem.W.mg_of X G z0, rfl⟩, fun H => .inr ⟨_, _, _, y0, rfl, rfl, (by show 2 ≤ sizeLine; decide), (.cons ⟨_, rfl⟩ (.cons ⟨_, rfl⟩ .nil))⟩, PySem.W.mg_none_of X G z1, PySem.W.mg_none_of X G z2, PySem.W.mg_none_of X G z3, ⟨_, PySem.W.mg_of X G z4, ⟨_, rfl⟩⟩, PySem.W.mg_none_of X G z5, ⟨_, PySem.W.mg_of X G z6, rfl⟩, ⟨_, _, y6, u6, (.cons (.cons .nil))⟩, PySem.W.mg_none_of X G z7, PySem.W.mg_none_of X G z8, PySem.W.mg_none_of X G z9, PySem.W.mg_none_of X G z10, PySem.W.mg_none_of X G z11, PySem.W.mg_of X G vOutOfRange, exOutOfRange, ekOutOfRange, ebOutOfRange, etOutOfRange, exm_mk ebOutOfRange eiOutOfRangeOutOfRange etOutOfRange esOutOfRangeOutOfRange⟩
  have F0 : FunD K "check_size" "check_size" (defArgs s_check_size) (defBody s_check_size) (defScope s_check_size) [] [] f0 _ := ⟨⟨_, _, _, _, _, _, _, _, _, _, rfl, l0, c0, .inl ⟨rfl, rfl⟩, .inl rfl⟩, k0⟩
  have D_0 : DefX K mg "check_size" s_check_size ["size"] pats_check_size := ⟨_, _, _, _, F0, PySem.W.mg_of X G a0, (all_consQ (Bnd.all fun us ws vs zs l1 l2 r rz => by
      obtain ⟨u0, rfl⟩ := len1 (r.length.symm.trans l1)
      obtain rfl := len0 (rz.length.symm.trans l2)
      cases r with | cons r0 r =>
        cases r
        cases rz
        exact ⟨[u0], rfl, (.cons r0 .nil)⟩) all_nilQ)⟩
  have F1 : FunD K "check_square" "check_square" (defArgs s_check_square) (defBody s_check_square) (defScope s_check_square) [] [] f1 _ := ⟨⟨_, _, _, _, _, _, _, _, _, _, rfl, l1, c1, .inl ⟨rfl, rfl⟩, .inl rfl⟩, k1⟩
  have D_1 : DefX K mg "check_square" s_check_square ["square"] pats_check_square := ⟨_, _, _, _, F1, PySem.W.mg_of X G a1, (all_consQ (Bnd.all fun us ws vs zs l1 l2 r rz => by
      obtain ⟨u0, rfl⟩ := len1 (r.length.symm.trans l1)
      obtain rfl := len0 (rz.length.symm.trans l2)
      cases r with | cons r0 r =>
        cases r
        cases rz
        exact ⟨[u0], rfl, (.cons r0 .nil)⟩) all_nilQ)⟩
  have F2 : FunD K "turn_back" "turn_back" (defArgs s_turn_back) (defBody s_turn_back) (defScope s_turn_back) [] [] f2 _ := ⟨⟨_, _, _, _, _, _, _, _, _, _, rfl, l2, c2, .inl ⟨rfl, rfl⟩, .inl rfl⟩, k2⟩
  have D_2 : DefX K mg "turn_back" s_turn_back ["first", "second", "outer", "inner"] pats_turn_back := ⟨_, _, _, _, F2, PySem.W.mg_of X G a2, (all_consQ (Bnd.all fun us ws vs zs l1 l2 r rz => by
      obtain ⟨u0, u1, rfl⟩ := len2 (r.length.symm.trans l1)
      obtain ⟨w0, w1, rfl⟩ := len2 (rz.length.symm.trans l2)
      cases r with | cons r0 r =>
        cases r with | cons r1 r =>
          cases r
          cases rz with | cons q0 rz =>
            cases rz with | cons q1 rz =>
              cases rz
              exact ⟨[u0, u1, w0, w1], rfl, (.cons r0 (.cons r1 (.cons q0 (.cons q1 .nil))))⟩) all_nilQ)⟩
  have F3 : FunD K "join_pair" "join_pair" (defArgs s_join_pair) (defBody s_join_pair) (defScope s_join_pair) [] [] f3 _ := ⟨⟨_, _, _, _, _, _, _, _, _, _, rfl, l3, c3, .inl ⟨rfl, rfl⟩, .inl rfl⟩, k3⟩
  have D_3 : DefX K mg "join_pair" s_join_pair ["low", "high"] pats_join_pair := ⟨_, _, _, _, F3, PySem.W.mg_of X G a3, (all_consQ (Bnd.all fun us ws vs zs l1 l2 r rz => by
      obtain ⟨u0, u1, rfl⟩ := len2 (r.length.symm.trans l1)
      obtain rfl := len0 (rz.length.symm.trans l2)
      cases r with | cons r0 r =>
        cases r with | cons r1 r =>
          cases r
          cases rz
          exact ⟨[u0, u1], rfl, (.cons r0 (.cons r1 .nil))⟩) all_nilQ)⟩
  have F4 : FunD K "_inverse_four" "_inverse_four" (defArgs s__inverse_four) (defBody s__inverse_four) (defScope s__inverse_four) [] [] f4 _ := ⟨⟨_, _, _, _, _, _, _, _, _, _, rfl, l4, c4, .inl ⟨rfl, rfl⟩, .inl rfl⟩, k4⟩
  have D_4 : DefX K mg "_inverse_four" s__inverse_four ["values"] pats__inverse_four := ⟨_, _, _, _, F4, PySem.W.mg_of X G a4, (all_consQ (Bnd.all fun us ws vs zs l1 l2 r rz => by
      obtain ⟨u0, rfl⟩ := len1 (r.length.symm.trans l1)
      obtain rfl := len0 (rz.length.symm.trans l2)
      cases r with | cons r0 r =>
        cases r
        cases rz
        exact ⟨[u0], rfl, (.cons r0 .nil)⟩) all_nilQ)⟩
  have F5 : FunD K "_inverse_eight" "_inverse_eight" (defArgs s__inverse_eight) (defBody s__inverse_eight) (defScope s__inverse_eight) [] [] f5 _ := ⟨⟨_, _, _, _, _, _, _, _, _, _, rfl, l5, c5, .inl ⟨rfl, rfl⟩, .inl rfl⟩, k5⟩
  have D_5 : DefX K mg "_inverse_eight" s__inverse_eight ["values"] pats__inverse_eight := ⟨_, _, _, _, F5, PySem.W.mg_of X G a5, (all_consQ (Bnd.all fun us ws vs zs l1 l2 r rz => by
      obtain ⟨u0, rfl⟩ := len1 (r.length.symm.trans l1)
      obtain rfl := len0 (rz.length.symm.trans l2)
      cases r with | cons r0 r =>
        cases r
        cases rz
        exact ⟨[u0], rfl, (.cons r0 .nil)⟩) all_nilQ)⟩
  have F6 : FunD K "inverse" "inverse" (defArgs s_inverse) (defBody s_inverse) (defScope s_inverse) [] [] f6 _ := ⟨⟨_, _, _, _, _, _, _, _, _, _, rfl, l6, c6, .inl ⟨rfl, rfl⟩, .inl rfl⟩, k6⟩
  have D_6 : DefX K mg "inverse" s_inverse ["values"] pats_inverse := ⟨_, _, _, _, F6, PySem.W.mg_of X G a6, (all_consQ (Bnd.all fun us ws vs zs l1 l2 r rz => by
      obtain ⟨u0, rfl⟩ := len1 (r.length.symm.trans l1)
      obtain rfl := len0 (rz.length.symm.trans l2)
      cases r with | cons r0 r =>
        cases r
        cases rz
        exact ⟨[u0], rfl, (.cons r0 .nil)⟩) all_nilQ)⟩
  have F7 : FunD K "transposed" "transposed" (defArgs s_transposed) (defBody s_transposed) (defScope s_transposed) [] [] f7 _ := ⟨⟨_, _, _, _, _, _, _, _, _, _, rfl, l7, c7, .inl ⟨rfl, rfl⟩, .inl rfl⟩, k7⟩
  have D_7 : DefX K mg "transposed" s_transposed ["rows"] pats_transposed := ⟨_, _, _, _, F7, PySem.W.mg_of X G a7, (all_consQ (Bnd.all fun us ws vs zs l1 l2 r rz => by
      obtain ⟨u0, rfl⟩ := len1 (r.length.symm.trans l1)
      obtain rfl := len0 (rz.length.symm.trans l2)
      cases r with | cons r0 r =>
        cases r
        cases rz
        exact ⟨[u0], rfl, (.cons r0 .nil)⟩) all_nilQ)⟩
  have F8 : FunD K "inverse_square" "inverse_square" (defArgs s_inverse_square) (defBody s_inverse_square) (defScope s_inverse_square) [] [] f8 _ := ⟨⟨_, _, _, _, _, _, _, _, _, _, rfl, l8, c8, .inl ⟨rfl, rfl⟩, .inl rfl⟩, k8⟩
  have D_8 : DefX K mg "inverse_square" s_inverse_square ["square"] pats_inverse_square := ⟨_, _, _, _, F8, PySem.W.mg_of X G a8, (all_consQ (Bnd.all fun us ws vs zs l1 l2 r rz => by
      obtain ⟨u0, rfl⟩ := len1 (r.length.symm.trans l1)
      obtain rfl := len0 (rz.length.symm.trans l2)
      cases r with | cons r0 r =>
        cases r
        cases rz
        exact ⟨[u0], rfl, (.cons r0 .nil)⟩) all_nilQ)⟩
  have F9 : FunD K "step_of" "step_of" (defArgs s_step_of) (defBody s_step_of) (defScope s_step_of) [] [] f9 _ := ⟨⟨_, _, _, _, _, _, _, _, _, _, rfl, l9, c9, .inl ⟨rfl, rfl⟩, .inl rfl⟩, k9⟩
  have D_9 : DefX K mg "step_of" s_step_of ["quantizer"] pats_step_of := ⟨_, _, _, _, F9, PySem.W.mg_of X G a9, (all_consQ (Bnd.all fun us ws vs zs l1 l2 r rz => by
      obtain ⟨u0, rfl⟩ := len1 (r.length.symm.trans l1)
      obtain rfl := len0 (rz.length.symm.trans l2)
      cases r with | cons r0 r =>
        cases r
        cases rz
        exact ⟨[u0], rfl, (.cons r0 .nil)⟩) all_nilQ)⟩
  have F10 : FunD K "restore_square" "restore_square" (defArgs s_restore_square) (defBody s_restore_square) (defScope s_restore_square) [] [] f10 _ := ⟨⟨_, _, _, _, _, _, _, _, _, _, rfl, l10, c10, .inl ⟨rfl, rfl⟩, .inl rfl⟩, k10⟩
  have D_10 : DefX K mg "restore_square" s_restore_square ["square", "quantizer"] pats_restore_square := ⟨_, _, _, _, F10, PySem.W.mg_of X G a10, (all_consQ (Bnd.all fun us ws vs zs l1 l2 r rz => by
      obtain ⟨u0, u1, rfl⟩ := len2 (r.length.symm.trans l1)
      obtain rfl := len0 (rz.length.symm.trans l2)
      cases r with | cons r0 r =>
        cases r with | cons r1 r =>
          cases r
          cases rz
          exact ⟨[u0, u1], rfl, (.cons r0 (.cons r1 .nil))⟩) all_nilQ)⟩
  have F11 : FunD K "scan_order" "scan_order" (defArgs s_scan_order) (defBody s_scan_order) (defScope s_scan_order) [] [] f11 _ := ⟨⟨_, _, _, _, _, _, _, _, _, _, rfl, l11, c11, .inl ⟨rfl, rfl⟩, .inl rfl⟩, k11⟩
  have D_11 : DefX K mg "scan_order" s_scan_order ["size"] pats_scan_order := ⟨_, _, _, _, F11, PySem.W.mg_of X G a11, (all_consQ (Bnd.all fun us ws vs zs l1 l2 r rz => by
      obtain ⟨u0, rfl⟩ := len1 (r.length.symm.trans l1)
      obtain rfl := len0 (rz.length.symm.trans l2)
      cases r with | cons r0 r =>
        cases r
        cases rz
        exact ⟨[u0], rfl, (.cons r0 .nil)⟩) all_nilQ)⟩
  have F12 : FunD K "to_square" "to_square" (defArgs s_to_square) (defBody s_to_square) (defScope s_to_square) [] [] f12 _ := ⟨⟨_, _, _, _, _, _, _, _, _, _, rfl, l12, c12, .inl ⟨rfl, rfl⟩, .inl rfl⟩, k12⟩
  have D_12 : DefX K mg "to_square" s_to_square ["levels"] pats_to_square := ⟨_, _, _, _, F12, PySem.W.mg_of X G a12, (all_consQ (Bnd.all fun us ws vs zs l1 l2 r rz => by
      obtain ⟨u0, rfl⟩ := len1 (r.length.symm.trans l1)
      obtain rfl := len0 (rz.length.symm.trans l2)
      cases r with | cons r0 r =>
        cases r
        cases rz
        exact ⟨[u0], rfl, (.cons r0 .nil)⟩) all_nilQ)⟩
  have F13 : FunD K "residue_of" "residue_of" (defArgs s_residue_of) (defBody s_residue_of) (defScope s_residue_of) [] [] f13 _ := ⟨⟨_, _, _, _, _, _, _, _, _, _, rfl, l13, c13, .inl ⟨rfl, rfl⟩, .inl rfl⟩, k13⟩
  have D_13 : DefX K mg "residue_of" s_residue_of ["levels", "quantizer"] pats_residue_of := ⟨_, _, _, _, F13, PySem.W.mg_of X G a13, (all_consQ (Bnd.all fun us ws vs zs l1 l2 r rz => by
      obtain ⟨u0, u1, rfl⟩ := len2 (r.length.symm.trans l1)
      obtain rfl := len0 (rz.length.symm.trans l2)
      cases r with | cons r0 r =>
        cases r with | cons r1 r =>
          cases r
          cases rz
          exact ⟨[u0, u1], rfl, (.cons r0 (.cons r1 .nil))⟩) all_nilQ)⟩
  have F14 : FunD K "split_pair" "split_pair" (defArgs s_split_pair) (defBody s_split_pair) (defScope s_split_pair) [] [] f14 _ := ⟨⟨_, _, _, _, _, _, _, _, _, _, rfl, l14, c14, .inl ⟨rfl, rfl⟩, .inl rfl⟩, k14⟩
  have D_14 : DefX K mg "split_pair" s_split_pair ["first", "second"] pats_split_pair := ⟨_, _, _, _, F14, PySem.W.mg_of X G a14, (all_consQ (Bnd.all fun us ws vs zs l1 l2 r rz => by
      obtain ⟨u0, u1, rfl⟩ := len2 (r.length.symm.trans l1)
      obtain rfl := len0 (rz.length.symm.trans l2)
      cases r with | cons r0 r =>
        cases r with | cons r1 r =>
          cases r
          cases rz
          exact ⟨[u0, u1], rfl, (.cons r0 (.cons r1 .nil))⟩) all_nilQ)⟩
  have F15 : FunD K "turn_pair" "turn_pair" (defArgs s_turn_pair) (defBody s_turn_pair) (defScope s_turn_pair) [] [] f15 _ := ⟨⟨_, _, _, _, _, _, _, _, _, _, rfl, l15, c15, .inl ⟨rfl, rfl⟩, .inl rfl⟩, k15⟩
  have D_15 : DefX K mg "turn_pair" s_turn_pair ["first", "second", "outer", "inner"] pats_turn_pair := ⟨_, _, _, _, F15, PySem.W.mg_of X G a15, (all_consQ (Bnd.all fun us ws vs zs l1 l2 r rz => by
      obtain ⟨u0, u1, rfl⟩ := len2 (r.length.symm.trans l1)
      obtain ⟨w0, w1, rfl⟩ := len2 (rz.length.symm.trans l2)
      cases r with | cons r0 r =>
        cases r with | cons r1 r =>
          cases r
          cases rz with | cons q0 rz =>
            cases rz with | cons q1 rz =>
              cases rz
              exact ⟨[u0, u1, w0, w1], rfl, (.cons r0 (.cons r1 (.cons q0 (.cons q1 .nil))))⟩) all_nilQ)⟩
  have F16 : FunD K "_forward_four" "_forward_four" (defArgs s__forward_four) (defBody s__forward_four) (defScope s__forward_four) [] [] f16 _ := ⟨⟨_, _, _, _, _, _, _, _, _, _, rfl, l16, c16, .inl ⟨rfl, rfl⟩, .inl rfl⟩, k16⟩
  have D_16 : DefX K mg "_forward_four" s__forward_four ["values"] pats__forward_four := ⟨_, _, _, _, F16, PySem.W.mg_of X G a16, (all_consQ (Bnd.all fun us ws vs zs l1 l2 r rz => by
      obtain ⟨u0, rfl⟩ := len1 (r.length.symm.trans l1)
      obtain rfl := len0 (rz.length.symm.trans l2)
      cases r with | cons r0 r =>
        cases r
        cases rz
        exact ⟨[u0], rfl, (.cons r0 .nil)⟩) all_nilQ)⟩
  have F17 : FunD K "_forward_eight" "_forward_eight" (defArgs s__forward_eight) (defBody s__forward_eight) (defScope s__forward_eight) [] [] f17 _ := ⟨⟨_, _, _, _, _, _, _, _, _, _, rfl, l17, c17, .inl ⟨rfl, rfl⟩, .inl rfl⟩, k17⟩
  have D_17 : DefX K mg "_forward_eight" s__forward_eight ["values"] pats__forward_eight := ⟨_, _, _, _, F17, PySem.W.mg_of X G a17, (all_consQ (Bnd.all fun us ws vs zs l1 l2 r rz => by
      obtain ⟨u0, rfl⟩ := len1 (r.length.symm.trans l1)
      obtain rfl := len0 (rz.length.symm.trans l2)
      cases r with | cons r0 r =>
        cases r
        cases rz
        exact ⟨[u0], rfl, (.cons r0 .nil)⟩) all_nilQ)⟩
  have F18 : FunD K "forward" "forward" (defArgs s_forward) (defBody s_forward) (defScope s_forward) [] [] f18 _ := ⟨⟨_, _, _, _, _, _, _, _, _, _, rfl, l18, c18, .inl ⟨rfl, rfl⟩, .inl rfl⟩, k18⟩
  have D_18 : DefX K mg "forward" s_forward ["values"] pats_forward := ⟨_, _, _, _, F18, PySem.W.mg_of X G a18, (all_consQ (Bnd.all fun us ws vs zs l1 l2 r rz => by
      obtain ⟨u0, rfl⟩ := len1 (r.length.symm.trans l1)
      obtain rfl := len0 (rz.length.symm.trans l2)
      cases r with | cons r0 r =>
        cases r
        cases rz
        exact ⟨[u0], rfl, (.cons r0 .nil)⟩) all_nilQ)⟩
  have F19 : FunD K "forward_square" "forward_square" (defArgs s_forward_square) (defBody s_forward_square) (defScope s_forward_square) [] [] f19 _ := ⟨⟨_, _, _, _, _, _, _, _, _, _, rfl, l19, c19, .inl ⟨rfl, rfl⟩, .inl rfl⟩, k19⟩
  have D_19 : DefX K mg "forward_square" s_forward_square ["square"] pats_forward_square := ⟨_, _, _, _, F19, PySem.W.mg_of X G a19, (all_consQ (Bnd.all fun us ws vs zs l1 l2 r rz => by
      obtain ⟨u0, rfl⟩ := len1 (r.length.symm.trans l1)
      obtain rfl := len0 (rz.length.symm.trans l2)
      cases r with | cons r0 r =>
        cases r
        cases rz
        exact ⟨[u0], rfl, (.cons r0 .nil)⟩) all_nilQ)⟩
  have F20 : FunD K "_law_cell" "_law_cell" (defArgs s__law_cell) (defBody s__law_cell) (defScope s__law_cell) [] [] f20 _ := ⟨⟨_, _, _, _, _, _, _, _, _, _, rfl, l20, c20, .inl ⟨rfl, rfl⟩, .inl rfl⟩, k20⟩
  have D_20 : DefX K mg "_law_cell" s__law_cell ["script", "k"] pats__law_cell := ⟨_, _, _, _, F20, PySem.W.mg_of X G a20, (all_consQ (Bnd.all fun us ws vs zs l1 l2 r rz => by
      obtain ⟨u0, u1, rfl⟩ := len2 (r.length.symm.trans l1)
      obtain rfl := len0 (rz.length.symm.trans l2)
      cases r with | cons r0 r =>
        cases r with | cons r1 r =>
          cases r
          cases rz
          exact ⟨[u0, u1], rfl, (.cons r0 (.cons r1 .nil))⟩) all_nilQ)⟩
  have F21 : FunD K "_law_refused" "_law_refused" (defArgs s__law_refused) (defBody s__law_refused) (defScope s__law_refused) [] [] f21 _ := ⟨⟨_, _, _, _, _, _, _, _, _, _, rfl, l21, c21, .inl ⟨rfl, rfl⟩, .inl rfl⟩, k21⟩
  have D_21 : DefX K mg "_law_refused" s__law_refused ["levels", "quantizer"] pats__law_refused := ⟨_, _, _, _, F21, PySem.W.mg_of X G a21, (all_consQ (Bnd.all fun us ws vs zs l1 l2 r rz => by
      obtain ⟨u0, u1, rfl⟩ := len2 (r.length.symm.trans l1)
      obtain rfl := len0 (rz.length.symm.trans l2)
      cases r with | cons r0 r =>
        cases r with | cons r1 r =>
          cases r
          cases rz
          exact ⟨[u0, u1], rfl, (.cons r0 (.cons r1 .nil))⟩) all_nilQ)⟩
  have F22 : FunD K "_law_digits" "_law_digits" (defArgs s__law_digits) (defBody s__law_digits) (defScope s__law_digits) [] [] f22 _ := ⟨⟨_, _, _, _, _, _, _, _, _, _, rfl, l22, c22, .inl ⟨rfl, rfl⟩, .inl rfl⟩, k22⟩
  have D_22 : DefX K mg "_law_digits" s__law_digits ["cell", "base", "most"] pats__law_digits := ⟨_, _, _, _, F22, PySem.W.mg_of X G a22, (all_consQ (Bnd.all fun us ws vs zs l1 l2 r rz => by
      obtain ⟨u0, u1, u2, rfl⟩ := len3 (r.length.symm.trans l1)
      obtain rfl := len0 (rz.length.symm.trans l2)
      cases r with | cons r0 r =>
        cases r with | cons r1 r =>
          cases r with | cons r2 r =>
            cases r
            cases rz
            exact ⟨[u0, u1, u2], rfl, (.cons r0 (.cons r1 (.cons r2 .nil)))⟩) all_nilQ)⟩
  have F23 : FunD K "_law_is_square" "_law_is_square" (defArgs s__law_is_square) (defBody s__law_is_square) (defScope s__law_is_square) [] [] f23 _ := ⟨⟨_, _, _, _, _, _, _, _, _, _, rfl, l23, c23, .inl ⟨rfl, rfl⟩, .inl rfl⟩, k23⟩
  have D_23 : DefX K mg "_law_is_square" s__law_is_square ["actual", "size"] pats__law_is_square := ⟨_, _, _, _, F23, PySem.W.mg_of X G a23, (all_consQ (Bnd.all fun us ws vs zs l1 l2 r rz => by
      obtain ⟨u0, u1, rfl⟩ := len2 (r.length.symm.trans l1)
      obtain rfl := len0 (rz.length.symm.trans l2)
      cases r with | cons r0 r =>
        cases r with | cons r1 r =>
          cases r
          cases rz
          exact ⟨[u0, u1], rfl, (.cons r0 (.cons r1 .nil))⟩) all_nilQ)⟩
  have F24 : FunD K "law" "law" (defArgs s_law) (defBody s_law) (defScope s_law) [] [] _ _ := ⟨⟨_, _, _, _, _, _, _, _, _, _, rfl, l24, c24, .inl ⟨rfl, rfl⟩, .inl rfl⟩, k24⟩
  have R_check_size : ∀ base : Heap, CalX l.prog w K mg base 1 "check_size" (sp_check_size K ⟨fa, XOutOfRange, TG_SIZES, TG_SIZES_BY_COUNT, fa⟩) pats_check_size := fun base => ok_check_size D_0 T 
  have R_check_square : ∀ base : Heap, CalX l.prog w K mg base 2 "check_square" (sp_check_square K ⟨fa, XOutOfRange, TG_SIZES, TG_SIZES_BY_COUNT, fa⟩) pats_check_square := fun base => ok_check_square D_1 T (R_check_size base)
  have R_turn_back : ∀ base : Heap, CalX l.prog w K mg base 1 "turn_back" (sp_turn_back K ⟨fa, XOutOfRange, TG_SIZES, TG_SIZES_BY_COUNT, fa⟩) pats_turn_back := fun base => ok_turn_back D_2 T 
  have R_join_pair : ∀ base : Heap, CalX l.prog w K mg base 1 "join_pair" (sp_join_pair K ⟨fa, XOutOfRange, TG_SIZES, TG_SIZES_BY_COUNT, fa⟩) pats_join_pair := fun base => ok_join_pair D_3 T 
  have R__inverse_four : ∀ base : Heap, CalX l.prog w K mg base 2 "_inverse_four" (sp__inverse_four K ⟨fa, XOutOfRange, TG_SIZES, TG_SIZES_BY_COUNT, fa⟩) pats__inverse_four := fun base => ok__inverse_four D_4 T (R_turn_back base) (R_join_pair base)
  have R__inverse_eight : ∀ base : Heap, CalX l.prog w K mg base 3 "_inverse_eight" (sp__inverse_eight K ⟨fa, XOutOfRange, TG_SIZES, TG_SIZES_BY_COUNT, fa⟩) pats__inverse_eight := fun base => ok__inverse_eight D_5 T (R_join_pair base) (R_turn_back base) (R__inverse_four base)
  have R_inverse : ∀ base : Heap, CalX l.prog w K mg base 4 "inverse" (sp_inverse K ⟨fa, XOutOfRange, TG_SIZES, TG_SIZES_BY_COUNT, fa⟩) pats_inverse := fun base => ok_inverse D_6 T (R_check_size base) (R__inverse_four base) (R__inverse_eight base)
  have R_transposed : ∀ base : Heap, CalX l.prog w K mg base 1 "transposed" (sp_transposed K ⟨fa, XOutOfRange, TG_SIZES, TG_SIZES_BY_COUNT, fa⟩) pats_transposed := fun base => ok_transposed D_7 T 
  have R_inverse_square : ∀ base : Heap, CalX l.prog w K mg base 5 "inverse_square" (sp_inverse_square K ⟨fa, XOutOfRange, TG_SIZES, TG_SIZES_BY_COUNT, fa⟩) pats_inverse_square := fun base => ok_inverse_square D_8 T (R_check_square base) (R_transposed base) (R_inverse base)
  have R_step_of : ∀ base : Heap, CalX l.prog w K mg base 1 "step_of" (sp_step_of K ⟨fa, XOutOfRange, TG_SIZES, TG_SIZES_BY_COUNT, fa⟩) pats_step_of := fun base => ok_step_of D_9 T 
  have R_restore_square : ∀ base : Heap, CalX l.prog w K mg base 2 "restore_square" (sp_restore_square K ⟨fa, XOutOfRange, TG_SIZES, TG_SIZES_BY_COUNT, fa⟩) pats_restore_square := fun base => ok_restore_square D_10 T (R_step_of base)
  have R_scan_order : ∀ base : Heap, CalX l.prog w K mg base 2 "scan_order" (sp_scan_order K ⟨fa, XOutOfRange, TG_SIZES, TG_SIZES_BY_COUNT, fa⟩) pats_scan_order := fun base => ok_scan_order D_11 T (R_check_size base)
  have R_to_square : ∀ base : Heap, CalX l.prog w K mg base 3 "to_square" (sp_to_square K ⟨fa, XOutOfRange, TG_SIZES, TG_SIZES_BY_COUNT, fa⟩) pats_to_square := fun base => ok_to_square D_12 T (R_scan_order base)
  have R_residue_of : ∀ base : Heap, CalX l.prog w K mg base 6 "residue_of" (sp_residue_of K ⟨fa, XOutOfRange, TG_SIZES, TG_SIZES_BY_COUNT, fa⟩) pats_residue_of := fun base => ok_residue_of D_13 T (R_inverse_square base) (R_restore_square base) (R_to_square base)
  have R_split_pair : ∀ base : Heap, CalX l.prog w K mg base 1 "split_pair" (sp_split_pair K ⟨fa, XOutOfRange, TG_SIZES, TG_SIZES_BY_COUNT, fa⟩) pats_split_pair := fun base => ok_split_pair D_14 T 
  have R_turn_pair : ∀ base : Heap, CalX l.prog w K mg base 1 "turn_pair" (sp_turn_pair K ⟨fa, XOutOfRange, TG_SIZES, TG_SIZES_BY_COUNT, fa⟩) pats_turn_pair := fun base => ok_turn_pair D_15 T 
  have R__forward_four : ∀ base : Heap, CalX l.prog w K mg base 2 "_forward_four" (sp__forward_four K ⟨fa, XOutOfRange, TG_SIZES, TG_SIZES_BY_COUNT, fa⟩) pats__forward_four := fun base => ok__forward_four D_16 T (R_split_pair base) (R_turn_pair base)
  have R__forward_eight : ∀ base : Heap, CalX l.prog w K mg base 3 "_forward_eight" (sp__forward_eight K ⟨fa, XOutOfRange, TG_SIZES, TG_SIZES_BY_COUNT, fa⟩) pats__forward_eight := fun base => ok__forward_eight D_17 T (R_split_pair base) (R__forward_four base) (R_turn_pair base)
  have R_forward : ∀ base : Heap, CalX l.prog w K mg base 4 "forward" (sp_forward K ⟨fa, XOutOfRange, TG_SIZES, TG_SIZES_BY_COUNT, fa⟩) pats_forward := fun base => ok_forward D_18 T (R_check_size base) (R__forward_four base) (R__forward_eight base)
  have R_forward_square : ∀ base : Heap, CalX l.prog w K mg base 5 "forward_square" (sp_forward_square K ⟨fa, XOutOfRange, TG_SIZES, TG_SIZES_BY_COUNT, fa⟩) pats_forward_square := fun base => ok_forward_square D_19 T (R_check_square base) (R_forward base) (R_transposed base)
  have R__law_cell : ∀ base : Heap, CalX l.prog w K mg base 1 "_law_cell" (sp__law_cell K ⟨fa, XOutOfRange, TG_SIZES, TG_SIZES_BY_COUNT, fa⟩) pats__law_cell := fun base => ok__law_cell D_20 T 
  have R__law_refused : ∀ base : Heap, CalX l.prog w K mg base 7 "_law_refused" (sp__law_refused K ⟨fa, XOutOfRange, TG_SIZES, TG_SIZES_BY_COUNT, fa⟩) pats__law_refused := fun base => ok__law_refused D_21 T (R_residue_of base)
  have R__law_digits : ∀ base : Heap, CalX l.prog w K mg base 1 "_law_digits" (sp__law_digits K ⟨fa, XOutOfRange, TG_SIZES, TG_SIZES_BY_COUNT, fa⟩) pats__law_digits := fun base => ok__law_digits D_22 T 
  have R__law_is_square : ∀ base : Heap, CalX l.prog w K mg base 1 "_law_is_square" (sp__law_is_square K ⟨fa, XOutOfRange, TG_SIZES, TG_SIZES_BY_COUNT, fa⟩) pats__law_is_square := fun base => ok__law_is_square D_23 T 

  refine ⟨PySem.W.fnOf "law" "law" (defArgs s_law) (defBody s_law) (defScope s_law) .none kV24 dc24 pm24 an24 cd24 ct24, fun s v => .of_eq rfl, fun base _ _ => (ok_law (AD := ⟨fa, XOutOfRange, TG_SIZES, TG_SIZES_BY_COUNT, fa⟩) F24 T (R__law_cell base) (R__law_digits base) (R_residue_of base) (R__law_is_square base) (R_forward_square base) (R_scan_order base) (R__law_refused base)).imp ?_⟩
  rintro vs H Q E ⟨a, xs, rfl, hs, hl, q⟩
  exact ⟨a, xs, rfl, hs, by rw [law_true xs hl]; exact cW_mk rfl, q⟩
end Vx
open PySem PySem.W PyProof.Rows
set_option maxRecDepth 100000 in
set_option maxHeartbeats 0 in
theorem PySem.Challenge.cw_thaumatrope_k53_residue_of_a_transform_b_holds : PySem.Challenge.rw_thaumatrope_k53_residue_of_a_transform_b.Holds := by
  w_on; o_law; k_head; (case hw => w_witness2)
  k_fill
  refine Vx.walkG (l := PySem.Challenge.rw_thaumatrope_k53_residue_of_a_transform_b) (n := 63) (k := 8) (x := "script") rfl (by decide) rfl ⟨rfl, by decide, by decide⟩ (fun w h Y => PySem.W.kIn_of Y) ?F
  case F =>
    intro w mg fa h KX G hmg
    refine' Vx.all_mk KX G hmg ?vOutOfRange ?a0 ?l0 ?c0 ?k0 ?a1 ?l1 ?c1 ?k1 ?a2 ?l2 ?c2 ?k2 ?a3 ?l3 ?c3 ?k3 ?a4 ?l4 ?c4 ?k4 ?a5 ?l5 ?c5 ?k5 ?a6 ?l6 ?c6 ?k6 ?a7 ?l7 ?c7 ?k7 ?a8 ?l8 ?c8 ?k8 ?a9 ?l9 ?c9 ?k9 ?a10 ?l10 ?c10 ?k10 ?a11 ?l11 ?c11 ?k11 ?a12 ?l12 ?c12 ?k12 ?a13 ?l13 ?c13 ?k13 ?a14 ?l14 ?c14 ?k14 ?a15 ?l15 ?c15 ?k15 ?a16 ?l16 ?c16 ?k16 ?a17 ?l17 ?c17 ?k17 ?a18 ?l18 ?c18 ?k18 ?a19 ?l19 ?c19 ?k19 ?a20 ?l20 ?c20 ?k20 ?a21 ?l21 ?c21 ?k21 ?a22 ?l22 ?c22 ?k22 ?a23 ?l23 ?c23 ?k23 ?a24 ?l24 ?c24 ?k24 ?z0 ?y0 ?z1 ?z2 ?z3 ?z4 ?z5 ?z6 ?y6 ?u6 ?z7 ?z8 ?z9 ?z10 ?z11 ?exOutOfRange ?ekOutOfRange ?ebOutOfRange ?etOutOfRange ?eiOutOfRangeOutOfRange ?esOutOfRangeOutOfRange
    (case vOutOfRange => k_is)
    (case a0 => k_is)
    (case l0 => k_is)
    (case c0 => k_is)
    (case k0 => k_is)
    (case a1 => k_is)
    (case l1 => k_is)
    (case c1 => k_is)
    (case k1 => k_is)
    (case a2 => k_is)
    (case l2 => k_is)
    (case c2 => k_is)
    (case k2 => k_is)
    (case a3 => k_is)
    (case l3 => k_is)
    (case c3 => k_is)
    (case k3 => k_is)
    (case a4 => k_is)
    (case l4 => k_is)
    (case c4 => k_is)
    (case k4 => k_is)
    (case a5 => k_is)
    (case l5 => k_is)
    (case c5 => k_is)
    (case k5 => k_is)
    (case a6 => k_is)
    (case l6 => k_is)
    (case c6 => k_is)
    (case k6 => k_is)
    (case a7 => k_is)
    (case l7 => k_is)
    (case c7 => k_is)
    (case k7 => k_is)
    (case a8 => k_is)
    (case l8 => k_is)
    (case c8 => k_is)
    (case k8 => k_is)
    (case a9 => k_is)
    (case l9 => k_is)
    (case c9 => k_is)
    (case k9 => k_is)
    (case a10 => k_is)
    (case l10 => k_is)
    (case c10 => k_is)
    (case k10 => k_is)
    (case a11 => k_is)
    (case l11 => k_is)
    (case c11 => k_is)
    (case k11 => k_is)
    (case a12 => k_is)
    (case l12 => k_is)
    (case c12 => k_is)
    (case k12 => k_is)
    (case a13 => k_is)
    (case l13 => k_is)
    (case c13 => k_is)
    (case k13 => k_is)
    (case a14 => k_is)
    (case l14 => k_is)
    (case c14 => k_is)
    (case k14 => k_is)
    (case a15 => k_is)
    (case l15 => k_is)
    (case c15 => k_is)
    (case k15 => k_is)
    (case a16 => k_is)
    (case l16 => k_is)
    (case c16 => k_is)
    (case k16 => k_is)
    (case a17 => k_is)
    (case l17 => k_is)
    (case c17 => k_is)
    (case k17 => k_is)
    (case a18 => k_is)
    (case l18 => k_is)
    (case c18 => k_is)
    (case k18 => k_is)
    (case a19 => k_is)
    (case l19 => k_is)
    (case c19 => k_is)
    (case k19 => k_is)
    (case a20 => k_is)
    (case l20 => k_is)
    (case c20 => k_is)
    (case k20 => k_is)
    (case a21 => k_is)
    (case l21 => k_is)
    (case c21 => k_is)
    (case k21 => k_is)
    (case a22 => k_is)
    (case l22 => k_is)
    (case c22 => k_is)
    (case k22 => k_is)
    (case a23 => k_is)
    (case l23 => k_is)
    (case c23 => k_is)
    (case k23 => k_is)
    (case a24 => k_is)
    (case l24 => k_is)
    (case c24 => k_is)
    (case k24 => k_is)
    (case z0 => k_is)
    (case y0 => k_is)
    (case z1 => k_is)
    (case z2 => k_is)
    (case z3 => k_is)
    (case z4 => k_is)
    (case z5 => k_is)
    (case z6 => k_is)
    (case y6 => k_is)
    (case u6 => rfl)
    (case z7 => k_is)
    (case z8 => k_is)
    (case z9 => k_is)
    (case z10 => k_is)
    (case z11 => k_is)
    (case exOutOfRange => k_exc)
    (case ekOutOfRange => k_is)
    (case ebOutOfRange => k_is)
    (case etOutOfRange => k_is)
    (case eiOutOfRangeOutOfRange => k_is)
    (case esOutOfRangeOutOfRange => first | rfl | k_is)
