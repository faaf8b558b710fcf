import PyProof.Rows.All
import Wide.All
import OpenK.AllK
import Wide.FinOn
import HandS.ForMost
import HandS.Codes
import HandS.Steps
import HandS.IsInst
import HandS.Property
import HandS.Wide
import HandS.WideBits
import HandS.Exc
import HandS.Defaults
import HandS.ExcOwn
import HandS.TryOnly
import HandS.WordsExc
import HandS.ExcIs
import HandS.MakeKwOnly
import HandS.RaiseMore
import HandS.Style
import HandS.Zip
import HandS.Iter
import HandS.Walk
import HandS.GenBody
import HandS.GenList
import HandS.GenCall
import PySem.Challenge.RW_thaumatrope_k09_units_written_and_read
set_option Elab.async false
set_option linter.all false
set_option maxRecDepth 100000
set_option maxHeartbeats 8000000
namespace Vx
open PySem PySem.Spec PyProof.Rows L2

/-! ### heaps -/
def SameX (m : Addr) (H H' : Hp) : Prop := ∀ b o, H b = some o → b ≠ m → H' b = some o
theorem gen_new {H H' : Hp} {p : Addr} {o : HO} (n : H p = none) (h : upd H p o = H') : Same H H' ∧ H' p = some o := by
  subst h
  exact ⟨fun b u e => by rw [upd_ne (ne_of_none e n)]; exact e, upd_same⟩
theorem gen_mut {H H' : Hp} {m : Addr} {o : HO} (h : upd H m o = H') : SameX m H H' ∧ H' m = some o := by
  subst h
  exact ⟨fun b u e n => by rw [upd_ne n]; exact e, upd_same⟩
theorem same_mut {H0 H H' : Hp} {m : Addr} (B : Same H0 H) (x : SameX m H H') (f : H0 m = none) : Same H0 H' :=
  fun b o e => x b o (B b o e) (ne_of_none e f)
theorem map_get {xs : List Int} {i : Nat} {x : V} (h : (xs.map V.int)[i]? = some x) : ∃ o, xs[i]? = some o ∧ x = .int o := by
  rw [List.getElem?_map] at h
  cases e : xs[i]? with
  | none => rw [e] at h; cases h
  | some z => rw [e] at h; exact ⟨z, rfl, (Option.some.inj h).symm⟩
theorem get_len {α : Type} {xs : List α} {i : Nat} {x : α} (h : xs[i]? = some x) : i < xs.length := (List.getElem?_eq_some_iff.mp h).1
theorem eq_int {Q : VK} {H : Hp} {a b : Int} (h : Q (.int a) H) (e : a = b) : Q (.int b) H := e ▸ h
theorem eq_bl {Q : VK} {H : Hp} {a b : Bool} (h : Q (.bl a) H) (e : a = b) : Q (.bl b) H := e ▸ h
theorem small {n : Nat} (h : n ≤ 1000000) : n < sizeLine := Nat.lt_of_le_of_lt h (by decide)
theorem smallE {n : Nat} (h : n ≤ 1000000) : n ≤ sizeLine := Nat.le_of_lt (small h)
theorem snoc_int {xs : List Int} {y : Int} {H : Hp} {p : Addr} (h : H p = some (.lst (xs.map V.int ++ [V.int y]))) : H p = some (.lst ((xs ++ [y]).map V.int)) := by
  rw [List.map_append]; exact h
theorem cat_int {xs ys : List Int} {H : Hp} {p : Addr} (h : H p = some (.lst (xs.map V.int ++ ys.map V.int))) : H p = some (.lst ((xs ++ ys).map V.int)) := by
  rw [List.map_append]; exact h
theorem cast_lst {xs ys : List Int} {H : Hp} {p : Addr} (h : H p = some (.lst (xs.map V.int))) (e : xs = ys) : H p = some (.lst (ys.map V.int)) := e ▸ h

/-! ### tests -/
theorem dT {p : Prop} [Decidable p] (h : decide p = true) : p := of_decide_eq_true h
theorem dF {p : Prop} [Decidable p] (h : ¬ decide p = true) : ¬ p := fun x => h (decide_eq_true x)
theorem iteD {p A B : Prop} [Decidable p] (h1 : p → A) (h2 : ¬ p → B) : if decide p = true then A else B := by
  by_cases h : p
  · rw [if_pos (decide_eq_true h)]; exact h1 h
  · rw [if_neg (fun x => h (of_decide_eq_true x))]; exact h2 h
theorem iteN {p A B : Prop} [Decidable p] (h1 : ¬ p → A) (h2 : p → B) : if (!decide p) = true then A else B := by
  by_cases h : p
  · rw [decide_eq_true h]; exact iteF (h2 h)
  · rw [decide_eq_false h]; exact iteT (h1 h)
theorem iteB {b : Bool} {A B : Prop} (h1 : b = true → A) (h2 : b = false → B) : if b = true then A else B := by
  cases b with
  | true => exact iteT (h1 rfl)
  | false => exact iteF (h2 rfl)
theorem iteBN {b : Bool} {A B : Prop} (h1 : b = false → A) (h2 : b = true → B) : if (!b) = true then A else B := by
  cases b with
  | true => exact iteF (h2 rfl)
  | false => exact iteT (h1 rfl)
theorem iteDT {p A B : Prop} [Decidable p] (h : p) (k : A) : if decide p = true then A else B := by
  rw [if_pos (decide_eq_true h)]; exact k
theorem iteDF {p A B : Prop} [Decidable p] (h : ¬ p) (k : B) : if decide p = true then A else B := by
  rw [if_neg (fun x => h (of_decide_eq_true x))]; exact k
theorem iteNT {p A B : Prop} [Decidable p] (h : ¬ p) (k : A) : if (!decide p) = true then A else B := iteN (fun _ => k) (fun x => (h x).elim)
theorem iteNF {p A B : Prop} [Decidable p] (h : p) (k : B) : if (!decide p) = true then A else B := iteN (fun x => (x h).elim) (fun _ => k)

/-! ### equality of lists of ints -/
theorem eqvAll_ints : ∀ xs ys : List Int, PyData.eqvAll (xs.map PyData.int) (ys.map PyData.int) = decide (xs = ys)
  | [], [] => by simp [PyData.eqvAll]
  | [], y :: ys => by simp [PyData.eqvAll]
  | x :: xs, [] => by simp [PyData.eqvAll]
  | x :: xs, y :: ys => by
    have ih := eqvAll_ints xs ys
    simp only [List.map_cons, PyData.eqvAll, PyData.eqv, ih]
    by_cases h : x = y <;> by_cases h2 : xs = ys <;> simp [h, h2]
end Vx

namespace Vx
open PySem PySem.Spec PyProof.Rows L2
section
variable {X : Cx}
def rEqLi (K : PySem.W.Frag) : R2 := fun x y H Q => ∃ (a b : Addr) (xs ys : List Int), x = .ref a ∧ y = .ref b ∧ SqL K H a (xs.map V.int) ∧ SqL K H b (ys.map V.int) ∧ Q (.bl (decide (xs = ys))) H
def rNeLi (K : PySem.W.Frag) : R2 := fun x y H Q => ∃ (a b : Addr) (xs ys : List Int), x = .ref a ∧ y = .ref b ∧ SqL K H a (xs.map V.int) ∧ SqL K H b (ys.map V.int) ∧ Q (.bl (!decide (xs = ys))) H
theorem dpAll_ints {K : PySem.W.Frag} {H : Hp} : ∀ xs : List Int, DpAll K H (xs.map V.int) (xs.map PyData.int)
  | [] => .nil
  | x :: xs => .cons (.int x) (dpAll_ints xs)
theorem dp_ints {K : PySem.W.Frag} {H : Hp} {a : Addr} {xs : List Int} (h : SqL K H a (xs.map V.int)) : Dp K H (.ref a) (.list (xs.map PyData.int)) := .lst h (dpAll_ints xs)
theorem canLay_ints : ∀ xs : List Int, PyData.canLayAll0 (xs.map PyData.int) = true
  | [] => by simp [PyData.canLayAll0]
  | x :: xs => by simp [PyData.canLayAll0, PyData.canLay0, canLay_ints xs]
theorem depth_ints : ∀ xs : List Int, PyData.depthAll (xs.map PyData.int) = 0
  | [] => by simp [PyData.depthAll]
  | x :: xs => by simp [PyData.depthAll, PyData.depth, depth_ints xs]
theorem shaped_ints (xs : List Int) : SeqAt.shaped (.list (xs.map PyData.int)) = true := by
  unfold SeqAt.shaped
  simp [PyData.canLay0, canLay_ints, PyData.depth, depth_ints]
theorem eqv_ints (xs ys : List Int) : PyData.eqv (.list (xs.map PyData.int)) (.list (ys.map PyData.int)) = decide (xs = ys) := by
  simp only [PyData.eqv]
  exact eqvAll_ints xs ys
theorem op_eqLi (hu : X.A.units + 64 < cLine) : OpR X (compareOp .Eq) (rEqLi X.K) := by
  intro pins s σ H x y v u Q I rx ry h
  obtain ⟨a, b, xs, ys, rfl, rfl, h1, h2, q⟩ := h
  exact op_eqD hu pins s σ H _ _ v u Q I rx ry ⟨_, _, dp_ints h1, dp_ints h2, shaped_ints xs, shaped_ints ys, by rw [eqv_ints]; exact q⟩
theorem op_neLi (hu : X.A.units + 64 < cLine) : OpR X (compareOp .NotEq) (rNeLi X.K) := by
  intro pins s σ H x y v u Q I rx ry h
  obtain ⟨a, b, xs, ys, rfl, rfl, h1, h2, q⟩ := h
  exact op_neD hu pins s σ H _ _ v u Q I rx ry ⟨_, _, dp_ints h1, dp_ints h2, shaped_ints xs, shaped_ints ys, by rw [eqv_ints]; exact q⟩

/-! ### items, slices, repetition, comprehensions of ints -/
def itI (xs : List Int) (i : Int) : Int := (atI xs i).getD 0
theorem atI_int {xs : List Int} {i : Int} (h : -(xs.length : Int) ≤ i ∧ i < xs.length) : atI (xs.map V.int) i = some (.int (itI xs i)) := by
  unfold itI atI
  rw [List.length_map]
  have hk : ∃ j, ixN xs.length i = some j ∧ j < xs.length := by
    unfold ixN
    by_cases h0 : 0 ≤ i
    · refine ⟨i.toNat, ?_, by omega⟩
      rw [if_pos h0, if_pos h.2]
    · refine ⟨(i + xs.length).toNat, ?_, by omega⟩
      rw [if_neg h0, if_pos h.1]
  obtain ⟨j, e, hj⟩ := hk
  rw [e]
  show (xs.map V.int)[j]? = some (V.int ((xs[j]?).getD 0))
  rw [List.getElem?_map, List.getElem?_eq_getElem hj] <;> rfl
def cutI (xs : List Int) (lo hi : Option Int) : List Int := (xs.drop (HT.sIx xs.length 0 lo)).take (HT.sIx xs.length xs.length hi - HT.sIx xs.length 0 lo)
theorem cut_int {xs : List Int} {lo hi : Option Int} {H : Hp} {p : Addr} (h : H p = some (.lst (cutV (xs.map V.int) lo hi))) : H p = some (.lst ((cutI xs lo hi).map V.int)) := by
  rw [h]
  unfold cutV cutI
  rw [List.length_map, List.map_take, List.map_drop]
def rep (xs : List Int) (k : Int) : List Int := (List.replicate k.toNat xs).flatten
theorem rep_int {xs : List Int} {k : Int} {H : Hp} {p : Addr} (h : H p = some (.lst (List.replicate k.toNat (xs.map V.int)).flatten)) : H p = some (.lst ((rep xs k).map V.int)) := by
  rw [h]
  unfold rep
  rw [List.map_flatten, List.map_replicate]
theorem divW_lit {i j : Int} (h : 0 < j) (h2 : j.natAbs.log2 < 9000) : CDivW i j := ⟨h, h2⟩
theorem divW_small {i j : Int} (h : 0 < j) (h2 : j < 2 ^ 128) : CDivW i j := wide_div h (show j.natAbs < 2 ^ 128 by omega) (by decide) (by decide)
theorem comp_list {xs : List Int} {i : Nat} {x y : Int} {f : Int → Int} {H : Hp} {D : Addr} (hi : xs[i]? = some x) (h : H D = some (.lst (((xs.take i).map f).map V.int ++ [V.int y]))) (e : f x = y) : H D = some (.lst (((xs.take (i + 1)).map f).map V.int)) := by
  rw [h, ← e, List.take_succ, hi, List.map_append, List.map_append] <;> rfl
theorem comp_done {xs : List Int} {f : Int → Int} {H : Hp} {D : Addr} (h : H D = some (.lst (((xs.take (xs.map V.int).length).map f).map V.int))) : H D = some (.lst ((xs.map f).map V.int)) := by
  rw [List.length_map, List.take_length] at h
  exact h
theorem comp_range {i : Nat} {y : Int} {f : Nat → Int} {H : Hp} {D : Addr} (h : H D = some (.lst (((List.range i).map f).map V.int ++ [V.int y]))) (e : f i = y) : H D = some (.lst (((List.range (i + 1)).map f).map V.int)) := by
  rw [h, ← e, List.range_succ, List.map_append, List.map_append] <;> rfl
theorem iteBT {b : Bool} {A B : Prop} (h : b = true) (k : A) : if b = true then A else B := by rw [if_pos h]; exact k
theorem iteBF {b : Bool} {A B : Prop} (h : b = false) (k : B) : if b = true then A else B := by rw [if_neg (by rw [h]; decide)]; exact k
theorem take_succ_get {α : Type} {xs : List α} {i : Nat} {x : α} (hi : xs[i]? = some x) : xs.take (i + 1) = xs.take i ++ [x] := by rw [List.take_succ, hi] <;> rfl
end

/-! ### defs of the module, as callers see them -/
section
variable {P : Program} {w : World} {K : PySem.W.Frag} {mg : Str → Option Value} {base : Heap}
structure DefIn (K : PySem.W.Frag) (mg : Str → Option Value) (x : Str) (st : Stmt) (ps : List Str) : Prop where
  ex : ∃ (f : Addr) (fd : FuncData), Fun K x x st f fd ∧ mg x = some (.ref f) ∧ Binds K fd ps []
structure Cal (P : Program) (w : World) (K : PySem.W.Frag) (mg : Str → Option Value) (base : Heap) (k : Nat) (x : Str) (sp : Sp) : Prop where
  ex : ∃ (f : Addr) (fd : FuncData) (ps : List Str), FnOk P w K mg base CX0 k f fd ps sp ∧ mg x = some (.ref f) ∧ PySem.W.keepIn K (.ref f) = true ∧ Binds K fd ps []
theorem DefIn.ok {x : Str} {st : Stmt} {N ps : List Str} {k : Nat} {sp : Sp} (D : DefIn K mg x st ps) (S : FnScope N ps (defScope st)) (len : ∀ vs H Q E, sp vs H Q E → vs.length = ps.length)
    (hbody : ∀ (f : Addr) (cdv : Value) (A : Around) (outer : List Env) (s : Shared) (H : Hp) (vs : List V) (Q : VK) (E : XK), Room k (A.deeper (envOfC x (defScope st) s.heap.objs.size f cdv)) → sp vs H Q E →
      ∃ t, PSs (cxOf CX0 P w K mg base N x (defScope st) f cdv A outer s H E).nox (defBody st) t ∧ t { nx := fun _ H' => Q .non H', rt := Q } (start N vs) H) : Cal P w K mg base (k + 1) x sp := by
  obtain ⟨f, fd, F, hm, b⟩ := D.ex
  exact ⟨f, fd, ps, F.ok S len (fun cdv A outer s H vs Q E hr h => hbody f cdv A outer s H vs Q E hr h), hm, F.kp, b⟩
end
section
variable {X : Cx} {k j : Nat} {x : Str} {sp : Sp} {p pos : Pos} {e : Expr} {es : List Expr} {t : TA}
theorem vx_call (c : Cal X.prog X.w X.K X.mg X.base k x sp) (hr : Room j X.A) (hk : k ≤ j) (hg : Gl X x) (ha : PA X (e :: es) t)
    (hdb : (x == ("__debug__" : Str)) = false := by decide) (he : starEach (e :: es) X.env = (false, eval e X.env) :: starEach es X.env := by rfl) (hpl : (backTo pos (starEach es X.env)).any (·.1) = false := by rfl) :
    PE X (.Call (.Name x p) (e :: es) [] pos) (tCall sp [] E0 t) := by
  obtain ⟨f, fd, ps, F, hm, kp, b⟩ := c.ex
  exact pe_call F (hr.mono hk) hg hm kp b .nil pass0 ha hdb he hpl
end
end Vx

namespace Vx
open PySem PySem.Spec PyProof.Rows L2
section
variable {σ : L2.St} {H : Hp} {ta tb : TE} {x y z : V} {t : TT}
theorem vv_and {a b : Bool} (h1 : Val ta σ H (.bl a)) (h2 : Val tb σ H (.bl b)) : Val (tAndV ta tb) σ H (.bl (a && b)) := fun Q q => h1 _ ⟨a, rfl, by
  cases a with
  | true => exact iteT (h2 Q q)
  | false => exact iteF q⟩
theorem vv_or {a b : Bool} (h1 : Val ta σ H (.bl a)) (h2 : Val tb σ H (.bl b)) : Val (tOrV ta tb) σ H (.bl (a || b)) := fun Q q => h1 _ ⟨a, rfl, by
  cases a with
  | true => exact iteT q
  | false => exact iteF (h2 Q q)⟩
theorem vv_not {a : Bool} (h1 : Val ta σ H (.bl a)) : Val (tNotV ta) σ H (.bl (!a)) := fun Q q => h1 _ ⟨a, rfl, q⟩
theorem vv_un {r : V → Hp → VK → Prop} (ha : Val ta σ H x) (hr : ∀ Q : VK, Q z H → r x H Q) : Val (tUn r ta) σ H z := fun Q q => ha _ (hr Q q)
theorem vv_cmp {p : Int → Int → Bool} (ha : Val ta σ H x) (hb : Val tb σ H y) (hr : ∀ Q : VK, Q z H → ∃ i j, x = .int i ∧ y = .int j ∧ Q (.bl (p i j)) H) : Val (tCmp p ta tb) σ H z := fun Q q => ha _ (hb _ (hr Q q))
theorem vv_call1 {r : List V → Hp → VK → Prop} (ha : Val ta σ H x) (hr : ∀ Q : VK, Q z H → r [x] H Q) : Val (tCB r (tCons ta tNil)) σ H z := fun Q q => ha _ (hr Q q)
theorem vt_cmp {b : Bool} (h : Val ta σ H (.bl b)) : Ans (tB ta) σ H b := fun Q q => h _ ⟨b, rfl, q⟩
theorem vt_val {b : Bool} (h : Val ta σ H (.bl b)) : Ans (tB ta) σ H b := fun Q q => h _ ⟨b, rfl, q⟩
theorem vt_int {i : Int} {K : PySem.W.Frag} (h : Val ta σ H (.int i)) : Ans (fun σ H Q => ta σ H fun x H' => ∃ k, TruV K x H' k ∧ Q k H') σ H (i != 0) := fun Q q => h _ ⟨_, rfl, q⟩
theorem vv_if {p : Prop} [Decidable p] {a b : Int} (ht : Ans t σ H (decide p)) (hx : Val ta σ H (.int a)) (hy : Val tb σ H (.int b)) : Val (tIf t ta tb) σ H (.int (if p then a else b)) := fun Q q => ht _ (by
  by_cases h : p
  · rw [if_pos h] at q; exact iteDT h (hx Q q)
  · rw [if_neg h] at q; exact iteDF h (hy Q q))
theorem vv_ifb {c : Bool} {a b : Int} (ht : Ans t σ H c) (hx : Val ta σ H (.int a)) (hy : Val tb σ H (.int b)) : Val (tIf t ta tb) σ H (.int (if c = true then a else b)) := fun Q q => ht _ (by
  cases c with
  | true => exact iteT (hx Q q)
  | false => exact iteF (hy Q q))
end
end Vx

namespace Vx
open PySem PySem.Spec PyProof.Rows L2
def rLenLi (K : PySem.W.Frag) : List V → Hp → VK → Prop := fun xs H Q => ∃ (p : Addr) (ns : List Int), xs = [.ref p] ∧ SqL K H p (ns.map V.int) ∧ Q (.int (ns.length : Int)) H
theorem call_lenLi {X : Cx} : CallR X (.builtin "len") (rLenLi X.K) := by
  intro pins s σ H xs us Q I r h
  obtain ⟨p, ns, rfl, hs, q⟩ := h
  exact call_len_seq pins s σ H _ us Q I r ⟨p, _, rfl, Or.inl hs, by rw [List.length_map]; exact q⟩
end Vx

namespace Vx
open PySem PySem.Spec PyProof.Rows L2
section
variable {X : Cx} {K : PySem.W.Frag}
theorem ix_listK (hK : X.K = K := by rfl) : IxR X (rIxL K) := hK ▸ ix_list
theorem sl_listK (hK : X.K = K := by rfl) : SlR X (rSlL K) := hK ▸ sl_list
theorem call_lenLiK (hK : X.K = K := by rfl) : CallR X (.builtin "len") (rLenLi K) := hK ▸ call_lenLi
theorem op_eqLiK (hu : X.A.units + 64 < cLine) (hK : X.K = K := by rfl) : OpR X (compareOp .Eq) (rEqLi K) := hK ▸ op_eqLi hu
theorem op_neLiK (hu : X.A.units + 64 < cLine) (hK : X.K = K := by rfl) : OpR X (compareOp .NotEq) (rNeLi K) := hK ▸ op_neLi hu
theorem pi_listK {tg l : Expr} {tl : TE} (hl : PE X l tl) (hK : X.K = K := by rfl) : PI X tg l (iList K tl) := hK ▸ pi_list hl
theorem cr_sumK (hc : X.calm = true) (hK : X.K = K := by rfl) : CallR X (.builtin "sum") (rSum K) := hK ▸ cr_sum hc
theorem cr_maxK (hc : X.calm = true) (hK : X.K = K := by rfl) : CallR X (.builtin "max") (rMax K) := hK ▸ cr_max hc
theorem cr_minK (hc : X.calm = true) (hK : X.K = K := by rfl) : CallR X (.builtin "min") (rMin K) := hK ▸ cr_min hc
end
end Vx

namespace Vx
open PySem PySem.Spec PyProof.Rows L2
theorem tyes_go {σ : L2.St} {H : Hp} {f g : Hp → Prop} (h : f H) : tYes σ H (fun b H3 => if b = true then f H3 else g H3) := by
  show if true = true then f H else g H
  exact iteT h
end Vx

/-! # second part: data of any depth, the stable heap G, the owned addresses O -/
namespace Vx
open PySem PySem.Spec PyProof.Rows L2
mutual
inductive Rp (H : Hp) : V → PyData → Prop
  | non : Rp H .non .none
  | bl (b : Bool) : Rp H (.bl b) (.bool b)
  | int (i : Int) : Rp H (.int i) (.int i)
  | str (x : Str) : Rp H (.str x) (.str x)
  | lst {a : Addr} {xs : List V} {ds : List PyData} : H a = some (.lst xs) → RpAll H xs ds → Rp H (.ref a) (.list ds)
  | tup {a : Addr} {xs : List V} {ds : List PyData} : H a = some (.tup xs) → RpAll H xs ds → Rp H (.ref a) (.tuple ds)
inductive RpAll (H : Hp) : List V → List PyData → Prop
  | nil : RpAll H [] []
  | cons {v : V} {vs : List V} {d : PyData} {ds : List PyData} : Rp H v d → RpAll H vs ds → RpAll H (v :: vs) (d :: ds)
end
mutual
theorem Rp.mono {H H' : Hp} (e : Same H H') : ∀ {v : V} {d : PyData}, Rp H v d → Rp H' v d
  | _, _, .non => .non
  | _, _, .bl b => .bl b
  | _, _, .int i => .int i
  | _, _, .str x => .str x
  | _, _, .lst h r => .lst (e _ _ h) (RpAll.mono e r)
  | _, _, .tup h r => .tup (e _ _ h) (RpAll.mono e r)
theorem RpAll.mono {H H' : Hp} (e : Same H H') : ∀ {vs : List V} {ds : List PyData}, RpAll H vs ds → RpAll H' vs ds
  | _, _, .nil => .nil
  | _, _, .cons a b => .cons (Rp.mono e a) (RpAll.mono e b)
end
mutual
theorem Rp.dp {K : PySem.W.Frag} {H : Hp} : ∀ {v : V} {d : PyData}, Rp H v d → Dp K H v d
  | _, _, .non => .non
  | _, _, .bl b => .bl b
  | _, _, .int i => .int i
  | _, _, .str x => .str x
  | _, _, .lst h r => .lst (SqL.of h) (RpAll.dp r)
  | _, _, .tup h r => .tup (SqT.of h) (RpAll.dp r)
theorem RpAll.dp {K : PySem.W.Frag} {H : Hp} : ∀ {vs : List V} {ds : List PyData}, RpAll H vs ds → DpAll K H vs ds
  | _, _, .nil => .nil
  | _, _, .cons a b => .cons (Rp.dp a) (RpAll.dp b)
end
theorem RpAll.append {H : Hp} : ∀ {xs ys : List V} {ds es : List PyData}, RpAll H xs ds → RpAll H ys es → RpAll H (xs ++ ys) (ds ++ es)
  | _, _, _, _, .nil, s => s
  | _, _, _, _, .cons r t, s => .cons r (RpAll.append t s)
theorem RpAll.ints {H : Hp} : ∀ xs : List Int, RpAll H (xs.map V.int) (xs.map PyData.int)
  | [] => .nil
  | x :: xs => .cons (.int x) (RpAll.ints xs)
theorem RpAll.bls {H : Hp} : ∀ xs : List Bool, RpAll H (xs.map V.bl) (xs.map PyData.bool)
  | [] => .nil
  | x :: xs => .cons (.bl x) (RpAll.bls xs)
theorem RpAll.one {H : Hp} {v : V} {d : PyData} (h : Rp H v d) : RpAll H [v] [d] := .cons h .nil
theorem RpAll.len {H : Hp} : ∀ {vs : List V} {ds : List PyData}, RpAll H vs ds → vs.length = ds.length
  | _, _, .nil => rfl
  | _, _, .cons _ t => by rw [List.length_cons, List.length_cons, RpAll.len t]
theorem RpAll.at {H : Hp} : ∀ {vs : List V} {ds : List PyData} {i : Nat} {v : V}, RpAll H vs ds → vs[i]? = some v → ∃ d, ds[i]? = some d ∧ Rp H v d
  | _, _, _, _, .nil, h => by simp at h
  | _, _, 0, _, .cons r _, h => by
    simp at h
    subst h
    exact ⟨_, rfl, r⟩
  | _, _, i + 1, _, .cons _ t, h => by
    obtain ⟨d, h1, h2⟩ := RpAll.at (i := i) t (by simpa using h)
    exact ⟨d, by simpa using h1, h2⟩
theorem RpAll.at' {H : Hp} : ∀ {vs : List V} {ds : List PyData} {i : Nat} {d : PyData}, RpAll H vs ds → ds[i]? = some d → ∃ v, vs[i]? = some v ∧ Rp H v d
  | _, _, _, _, .nil, h => by simp at h
  | _, _, 0, _, .cons r _, h => by
    simp at h
    subst h
    exact ⟨_, rfl, r⟩
  | _, _, i + 1, _, .cons _ t, h => by
    obtain ⟨v, h1, h2⟩ := RpAll.at' (i := i) t (by simpa using h)
    exact ⟨v, by simpa using h1, h2⟩
theorem RpAll.take {H : Hp} : ∀ (n : Nat) {vs : List V} {ds : List PyData}, RpAll H vs ds → RpAll H (vs.take n) (ds.take n)
  | 0, _, _, _ => by simpa using RpAll.nil
  | n + 1, _, _, .nil => by simpa using RpAll.nil
  | n + 1, _, _, .cons r t => .cons r (RpAll.take n t)
theorem RpAll.drop {H : Hp} : ∀ (n : Nat) {vs : List V} {ds : List PyData}, RpAll H vs ds → RpAll H (vs.drop n) (ds.drop n)
  | 0, _, _, r => r
  | n + 1, _, _, .nil => by simpa using RpAll.nil
  | n + 1, _, _, .cons r t => RpAll.drop n t
theorem RpAll.set {H : Hp} {v : V} {d : PyData} (h : Rp H v d) : ∀ (n : Nat) {vs : List V} {ds : List PyData}, RpAll H vs ds → RpAll H (vs.set n v) (ds.set n d)
  | _, _, _, .nil => .nil
  | 0, _, _, .cons _ t => .cons h t
  | n + 1, _, _, .cons r t => .cons r (RpAll.set h n t)
theorem RpAll.rep {H : Hp} {vs : List V} {ds : List PyData} (h : RpAll H vs ds) : ∀ n : Nat, RpAll H (List.replicate n vs).flatten (List.replicate n ds).flatten
  | 0 => by simpa using RpAll.nil
  | n + 1 => by
    rw [List.replicate_succ, List.flatten_cons, List.replicate_succ, List.flatten_cons]
    exact RpAll.append h (RpAll.rep h n)
theorem RpAll.get {α : Type} {f : α → PyData} {H : Hp} {vs : List V} {xs : List α} {i : Nat} {v : V} (r : RpAll H vs (xs.map f)) (h : vs[i]? = some v) : ∃ x, xs[i]? = some x ∧ Rp H v (f x) := by
  obtain ⟨d, h1, h2⟩ := RpAll.at r h
  rw [List.getElem?_map] at h1
  cases e : xs[i]? with
  | none => rw [e] at h1; cases h1
  | some x =>
    rw [e] at h1
    have : f x = d := Option.some.inj h1
    exact ⟨x, rfl, this ▸ h2⟩
/-- the item at an index, data -/
theorem RpAll.ix {α : Type} {f : α → PyData} {H : Hp} {vs : List V} {xs : List α} {k : Int} (r : RpAll H vs (xs.map f)) (h : -(xs.length : Int) ≤ k ∧ k < xs.length) : ∃ v x, atI vs k = some v ∧ atI xs k = some x ∧ Rp H v (f x) := by
  have hl : vs.length = xs.length := by rw [r.len, List.length_map]
  have hk : ∃ j, ixN xs.length k = some j ∧ j < xs.length := by
    unfold ixN
    by_cases h0 : 0 ≤ k
    · refine ⟨k.toNat, ?_, by omega⟩
      rw [if_pos h0, if_pos h.2]
    · refine ⟨(k + xs.length).toNat, ?_, by omega⟩
      rw [if_neg h0, if_pos h.1]
  obtain ⟨j, e, hj⟩ := hk
  have hx := List.getElem?_eq_getElem hj
  obtain ⟨v, h1, h2⟩ := RpAll.at' (i := j) (d := f xs[j]) r (by rw [List.getElem?_map, hx] <;> rfl)
  refine ⟨v, xs[j], ?_, ?_, h2⟩
  · unfold atI
    rw [hl, e]
    exact h1
  · unfold atI
    rw [e]
    exact hx

/-! ### types -/
def encL {α : Type} (f : α → PyData) (xs : List α) : PyData := .list (xs.map f)
def encT2 {α β : Type} (f : α → PyData) (g : β → PyData) (p : α × β) : PyData := .tuple [f p.1, g p.2]
def encT3 {α β γ : Type} (f : α → PyData) (g : β → PyData) (h : γ → PyData) (p : α × β × γ) : PyData := .tuple [f p.1, g p.2.1, h p.2.2]
def encT4 {α β γ δ : Type} (f : α → PyData) (g : β → PyData) (h : γ → PyData) (i : δ → PyData) (p : α × β × γ × δ) : PyData := .tuple [f p.1, g p.2.1, h p.2.2.1, i p.2.2.2]
structure EncOk {α : Type} [DecidableEq α] (n : Nat) (f : α → PyData) : Prop where
  lay : ∀ x, PyData.canLay0 (f x) = true
  dep : ∀ x, PyData.depth (f x) ≤ n
  eqv : ∀ x y, PyData.eqv (f x) (f y) = decide (x = y)
theorem encOk_int : EncOk 0 PyData.int := ⟨fun _ => by simp [PyData.canLay0], fun _ => by simp [PyData.depth], fun x y => by simp [PyData.eqv]; by_cases h : x = y <;> simp [h]⟩
theorem encOk_bool : EncOk 0 PyData.bool := ⟨fun _ => by simp [PyData.canLay0], fun _ => by simp [PyData.depth], fun x y => by cases x <;> cases y <;> simp [PyData.eqv]⟩
section
variable {α β γ δ : Type} [DecidableEq α] [DecidableEq β] [DecidableEq γ] [DecidableEq δ] {n m l o : Nat} {f : α → PyData} {g : β → PyData} {h : γ → PyData} {i : δ → PyData}
theorem lay_map (ok : EncOk n f) : ∀ xs : List α, PyData.canLayAll0 (xs.map f) = true
  | [] => by simp [PyData.canLayAll0]
  | x :: xs => by simp [PyData.canLayAll0, ok.lay x, lay_map ok xs]
theorem dep_map (ok : EncOk n f) : ∀ xs : List α, PyData.depthAll (xs.map f) ≤ n
  | [] => by simp [PyData.depthAll]
  | x :: xs => by
    have h1 := ok.dep x
    have h2 := dep_map ok xs
    simp only [List.map_cons, PyData.depthAll]
    omega
theorem eqv_map (ok : EncOk n f) : ∀ xs ys : List α, PyData.eqvAll (xs.map f) (ys.map f) = decide (xs = ys)
  | [], [] => by simp [PyData.eqvAll]
  | [], y :: ys => by simp [PyData.eqvAll]
  | x :: xs, [] => by simp [PyData.eqvAll]
  | x :: xs, y :: ys => by
    have ih := eqv_map ok xs ys
    simp only [List.map_cons, PyData.eqvAll, ok.eqv, ih]
    by_cases h : x = y <;> by_cases h2 : xs = ys <;> simp [h, h2]
theorem encOk_L (ok : EncOk n f) : EncOk (n + 1) (encL f) := ⟨fun xs => by simp [encL, PyData.canLay0, lay_map ok], fun xs => by
  have := dep_map ok xs
  simp only [encL, PyData.depth]
  omega, fun xs ys => by simp only [encL, PyData.eqv]; exact eqv_map ok xs ys⟩
theorem encOk_T2 (ok : EncOk n f) (ok2 : EncOk m g) : EncOk (max n m + 1) (encT2 f g) := ⟨fun x => by simp [encT2, PyData.canLay0, PyData.canLayAll0, ok.lay, ok2.lay], fun x => by
  have h1 := ok.dep x.1
  have h2 := ok2.dep x.2
  simp only [encT2, PyData.depth, PyData.depthAll]
  omega, fun x y => by
  obtain ⟨a, b⟩ := x
  obtain ⟨c, d⟩ := y
  simp only [encT2, PyData.eqv, PyData.eqvAll, ok.eqv, ok2.eqv, Prod.mk.injEq]
  by_cases h1 : a = c <;> by_cases h2 : b = d <;> simp [h1, h2]⟩
theorem encOk_T3 (ok : EncOk n f) (ok2 : EncOk m g) (ok3 : EncOk l h) : EncOk (max n (max m l) + 1) (encT3 f g h) := ⟨fun x => by simp [encT3, PyData.canLay0, PyData.canLayAll0, ok.lay, ok2.lay, ok3.lay], fun x => by
  have h1 := ok.dep x.1
  have h2 := ok2.dep x.2.1
  have h3 := ok3.dep x.2.2
  simp only [encT3, PyData.depth, PyData.depthAll]
  omega, fun x y => by
  obtain ⟨a, b, e⟩ := x
  obtain ⟨c, d, e'⟩ := y
  simp only [encT3, PyData.eqv, PyData.eqvAll, ok.eqv, ok2.eqv, ok3.eqv, Prod.mk.injEq]
  by_cases h1 : a = c <;> by_cases h2 : b = d <;> by_cases h3 : e = e' <;> simp [h1, h2, h3]⟩
theorem encOk_T4 (ok : EncOk n f) (ok2 : EncOk m g) (ok3 : EncOk l h) (ok4 : EncOk o i) : EncOk (max n (max m (max l o)) + 1) (encT4 f g h i) := ⟨fun x => by simp [encT4, PyData.canLay0, PyData.canLayAll0, ok.lay, ok2.lay, ok3.lay, ok4.lay], fun x => by
  have h1 := ok.dep x.1
  have h2 := ok2.dep x.2.1
  have h3 := ok3.dep x.2.2.1
  have h4 := ok4.dep x.2.2.2
  simp only [encT4, PyData.depth, PyData.depthAll]
  omega, fun x y => by
  obtain ⟨a, b, e, u⟩ := x
  obtain ⟨c, d, e', u'⟩ := y
  simp only [encT4, PyData.eqv, PyData.eqvAll, ok.eqv, ok2.eqv, ok3.eqv, ok4.eqv, Prod.mk.injEq]
  by_cases h1 : a = c <;> by_cases h2 : b = d <;> by_cases h3 : e = e' <;> by_cases h4 : u = u' <;> simp [h1, h2, h3, h4]⟩
end
section
variable {X : Cx} {α : Type} [DecidableEq α] {n : Nat} {f : α → PyData}
def rEqT (f : α → PyData) : R2 := fun x y H Q => ∃ (a b : α), Rp H x (f a) ∧ Rp H y (f b) ∧ Q (.bl (decide (a = b))) H
def rNeT (f : α → PyData) : R2 := fun x y H Q => ∃ (a b : α), Rp H x (f a) ∧ Rp H y (f b) ∧ Q (.bl (!decide (a = b))) H
theorem shaped_of (ok : EncOk n f) (hn : n ≤ 64) (a : α) : SeqAt.shaped (f a) = true := by
  unfold SeqAt.shaped
  have h := ok.dep a
  rw [ok.lay]
  simp
  omega
theorem op_eqT (ok : EncOk n f) (hu : X.A.units + 64 < cLine) (hn : n ≤ 64 := by decide) : OpR X (compareOp .Eq) (rEqT f) := by
  intro pins s σ H x y v u Q I rx ry h
  obtain ⟨a, b, h1, h2, q⟩ := h
  exact op_eqD hu pins s σ H _ _ v u Q I rx ry ⟨_, _, h1.dp, h2.dp, shaped_of ok hn a, shaped_of ok hn b, by rw [ok.eqv]; exact q⟩
theorem op_neT (ok : EncOk n f) (hu : X.A.units + 64 < cLine) (hn : n ≤ 64 := by decide) : OpR X (compareOp .NotEq) (rNeT f) := by
  intro pins s σ H x y v u Q I rx ry h
  obtain ⟨a, b, h1, h2, q⟩ := h
  exact op_neD hu pins s σ H _ _ v u Q I rx ry ⟨_, _, h1.dp, h2.dp, shaped_of ok hn a, shaped_of ok hn b, by rw [ok.eqv]; exact q⟩
end
section
variable {H : Hp} {v : V} {α β γ δ : Type} {f : α → PyData} {g : β → PyData} {h : γ → PyData} {i : δ → PyData}
theorem rp_int {x : Int} (r : Rp H v (.int x)) : v = .int x := by cases r; rfl
theorem rp_bool {x : Bool} (r : Rp H v (.bool x)) : v = .bl x := by cases r; rfl
theorem rp_str {x : Str} (r : Rp H v (.str x)) : v = .str x := by cases r; rfl
theorem rp_list {xs : List α} (r : Rp H v (encL f xs)) : ∃ a vs, v = .ref a ∧ H a = some (.lst vs) ∧ RpAll H vs (xs.map f) := by
  unfold encL at r
  cases r with
  | lst h1 h2 => exact ⟨_, _, rfl, h1, h2⟩
theorem rpAll_ints : ∀ {vs : List V} {xs : List Int}, RpAll H vs (xs.map PyData.int) → vs = xs.map V.int
  | _, [], .nil => rfl
  | _, x :: xs, .cons r t => by rw [rp_int r, rpAll_ints t] <;> rfl
theorem rp_ints {xs : List Int} (r : Rp H v (encL PyData.int xs)) : ∃ a, v = .ref a ∧ H a = some (.lst (xs.map V.int)) := by
  obtain ⟨a, vs, e, h1, h2⟩ := rp_list r
  rw [rpAll_ints h2] at h1
  exact ⟨a, e, h1⟩
theorem rp_tup2 {x : α × β} (r : Rp H v (encT2 f g x)) : ∃ a v1 v2, v = .ref a ∧ H a = some (.tup [v1, v2]) ∧ Rp H v1 (f x.1) ∧ Rp H v2 (g x.2) := by
  unfold encT2 at r
  cases r with
  | tup h1 h2 =>
    cases h2 with
    | cons a b =>
      cases b with
      | cons b c =>
        cases c
        exact ⟨_, _, _, rfl, h1, a, b⟩
theorem rp_tup3 {x : α × β × γ} (r : Rp H v (encT3 f g h x)) : ∃ a v1 v2 v3, v = .ref a ∧ H a = some (.tup [v1, v2, v3]) ∧ Rp H v1 (f x.1) ∧ Rp H v2 (g x.2.1) ∧ Rp H v3 (h x.2.2) := by
  unfold encT3 at r
  cases r with
  | tup h1 h2 =>
    cases h2 with
    | cons a b =>
      cases b with
      | cons b c =>
        cases c with
        | cons c d =>
          cases d
          exact ⟨_, _, _, _, rfl, h1, a, b, c⟩
theorem rp_mk_list {a : Addr} {vs : List V} {xs : List α} (h1 : H a = some (.lst vs)) (h2 : RpAll H vs (xs.map f)) : Rp H (.ref a) (encL f xs) := .lst h1 h2
theorem rp_mk_ints {a : Addr} {xs : List Int} (h1 : H a = some (.lst (xs.map V.int))) : Rp H (.ref a) (encL PyData.int xs) := .lst h1 (RpAll.ints xs)
theorem rp_mk2 {a : Addr} {v1 v2 : V} {x : α} {y : β} (h1 : H a = some (.tup [v1, v2])) (r1 : Rp H v1 (f x)) (r2 : Rp H v2 (g y)) : Rp H (.ref a) (encT2 f g (x, y)) := .tup h1 (.cons r1 (.cons r2 .nil))
theorem rp_mk3 {a : Addr} {v1 v2 v3 : V} {x : α} {y : β} {z : γ} (h1 : H a = some (.tup [v1, v2, v3])) (r1 : Rp H v1 (f x)) (r2 : Rp H v2 (g y)) (r3 : Rp H v3 (h z)) : Rp H (.ref a) (encT3 f g h (x, y, z)) := .tup h1 (.cons r1 (.cons r2 (.cons r3 .nil)))
end

/-! ### the two heaps -/
def SameXs (L : List Addr) (H H' : Hp) : Prop := ∀ b o, H b = some o → b ∉ L → H' b = some o
theorem SameXs.of {H H' : Hp} {m : Addr} (x : SameX m H H') : SameXs [m] H H' := fun b o e n => x b o e (fun z => n (by rw [z]; exact List.mem_cons_self))
theorem ni1 {b m : Addr} (h : b ≠ m) : b ∉ [m] := by simpa using h
theorem ni2 {b m n : Addr} (h : b ≠ m) (h2 : b ≠ n) : b ∉ [m, n] := by simp [h, h2]
theorem ni3 {b m n o : Addr} (h : b ≠ m) (h2 : b ≠ n) (h3 : b ≠ o) : b ∉ [m, n, o] := by simp [h, h2, h3]
theorem ni4 {b m n o p : Addr} (h : b ≠ m) (h2 : b ≠ n) (h3 : b ≠ o) (h4 : b ≠ p) : b ∉ [m, n, o, p] := by simp [h, h2, h3, h4]
def hideL (L : List Addr) (H : Hp) : Hp := fun b => if b ∈ L then none else H b
theorem hideL_same (L : List Addr) (H : Hp) : Same (hideL L H) H := fun b o e => by
  unfold hideL at e
  split at e
  · cases e
  · exact e
theorem hideL_in {L : List Addr} {H : Hp} {b : Addr} (h : b ∈ L) : hideL L H b = none := if_pos h
theorem hideL_out {L : List Addr} {H : Hp} {b : Addr} (h : b ∉ L) : hideL L H b = H b := if_neg h
/-- M: owned from outside; H0, G0: at the entry; G: what stays as it is; O: what may change -/
structure Sep (M : List Addr) (H0 G0 G H : Hp) (O : List Addr) : Prop where
  base : SameXs M H0 H
  pm : ∀ a ∈ M, H a ≠ none
  sG : Same G H
  g0 : Same G0 G
  gn : ∀ b, H0 b ≠ none → G0 b = none → G b = none
  ow : ∀ a ∈ O, G a = none ∧ H a ≠ none ∧ (a ∈ M ∨ H0 a = none)
theorem all_nil {P : Addr → Prop} : ∀ x ∈ ([] : List Addr), P x := fun x h => by cases h
theorem all_cons {P : Addr → Prop} {a : Addr} {l : List Addr} (h : P a) (t : ∀ x ∈ l, P x) : ∀ x ∈ a :: l, P x := fun x hx => by
  cases hx with
  | head => exact h
  | tail _ hx => exact t x hx
theorem some_ne {H : Hp} {a : Addr} {o : HO} (h : H a = some o) : H a ≠ none := by
  rw [h]
  exact fun z => nomatch z
theorem same_ne {H H' : Hp} {a : Addr} (e : Same H H') (h : H a ≠ none) : H' a ≠ none := by
  cases q : H a with
  | none => exact absurd q h
  | some o => exact some_ne (e a o q)
section
variable {M : List Addr} {H0 G0 G H H' : Hp} {O : List Addr} {p m : Addr} {o : HO}
theorem Sep.start (M : List Addr) (H : Hp) (hM : ∀ a ∈ M, H a ≠ none) : Sep M H (hideL M H) (hideL M H) H M :=
  ⟨fun _ _ e _ => e, hM, hideL_same M H, Same.refl _, fun _ _ e => e, fun a ha => ⟨hideL_in ha, hM a ha, .inl ha⟩⟩
theorem Sep.startG {G H : Hp} (e : Same G H) : Sep [] H G G H [] := ⟨fun _ _ e _ => e, all_nil, e, Same.refl _, fun _ _ e => e, fun a ha => by cases ha⟩
theorem Sep.start0 (H : Hp) : Sep [] H H H H [] := Sep.startG (Same.refl H)
theorem Sep.b0 (S : Sep [] H0 G0 G H O) : Same H0 H := fun b o e => S.base b o e List.not_mem_nil
theorem Sep.free (S : Sep M H0 G0 G H O) {q : Addr} (n : H q = none) : H0 q = none := by
  cases e : H0 q with
  | none => rfl
  | some o =>
    by_cases h : q ∈ M
    · exact absurd n (S.pm q h)
    · rw [S.base q o e h] at n
      cases n
theorem Sep.same (S : Sep M H0 G0 G H O) (e : Same H H') : Sep M H0 G0 G H' O :=
  ⟨fun b o h n => e b o (S.base b o h n), fun a ha => same_ne e (S.pm a ha), S.sG.trans e, S.g0, S.gn, fun a ha => ⟨(S.ow a ha).1, same_ne e (S.ow a ha).2.1, (S.ow a ha).2.2⟩⟩
theorem Sep.gfree (S : Sep M H0 G0 G H O) {q : Addr} (n : H q = none) : G q = none := by
  cases e : G q with
  | none => rfl
  | some o => rw [S.sG q o e] at n; cases n
theorem Sep.new (S : Sep M H0 G0 G H O) (n : H p = none) (e : Same H H') (h : H' p = some o) (hm : H0 p = none) : Sep M H0 G0 G H' (p :: O) := by
  have S1 := S.same e
  refine ⟨S1.base, S1.pm, S1.sG, S1.g0, S1.gn, fun a ha => ?_⟩
  cases ha with
  | head => exact ⟨S.gfree n, some_ne h, .inr hm⟩
  | tail _ ha => exact S1.ow a ha
theorem Sep.grow (S : Sep M H0 G0 G H O) (n : H p = none) (e : Same H H') (h : H' p = some o) (hm : H0 p = none) : ∃ G', Same G G' ∧ G' p = some o ∧ Sep M H0 G0 G' H' O := by
  have S1 := S.same e
  have ng := S.gfree n
  refine ⟨upd G p o, fun b u q => by rw [upd_ne (ne_of_none q ng)]; exact q, upd_same, S1.base, S1.pm, fun b u q => ?_, fun b u q => ?_, fun b hb gb => ?_, fun a ha => ?_⟩
  · by_cases z : b = p
    · subst z
      rw [upd_same] at q
      exact q ▸ h
    · rw [upd_ne z] at q
      exact S1.sG b u q
  · have := S.g0 b u q
    rw [upd_ne (ne_of_none this ng)]
    exact this
  · by_cases z : b = p
    · subst z
      exact absurd hm hb
    · rw [upd_ne z]
      exact S.gn b hb gb
  · have hne : a ≠ p := fun z => (S.ow a ha).2.1 (by rw [z]; exact n)
    rw [upd_ne hne]
    exact S1.ow a ha
theorem Sep.mut (S : Sep M H0 G0 G H O) {L : List Addr} (x : SameXs L H H') (hL : ∀ a ∈ L, a ∈ O) (hs : ∀ a ∈ L, H' a ≠ none) : Sep M H0 G0 G H' O := by
  have keep : ∀ a, H a ≠ none → H' a ≠ none := fun a h => by
    by_cases hb : a ∈ L
    · exact hs a hb
    · cases q : H a with
      | none => exact absurd q h
      | some o => exact some_ne (x a o q hb)
  refine ⟨fun b o e n => ?_, fun a ha => keep a (S.pm a ha), fun b o e => ?_, S.g0, S.gn, fun a ha => ⟨(S.ow a ha).1, keep a (S.ow a ha).2.1, (S.ow a ha).2.2⟩⟩
  · refine x b o (S.base b o e n) fun hb => ?_
    rcases (S.ow b (hL b hb)).2.2 with z | z
    · exact n z
    · rw [e] at z; cases z
  · refine x b o (S.sG b o e) fun hb => ?_
    have := (S.ow b (hL b hb)).1
    rw [e] at this
    cases this
theorem Sep.mut1 (S : Sep M H0 G0 G H O) (x : SameX m H H') (hm : m ∈ O) (h : H' m = some o) : Sep M H0 G0 G H' O :=
  S.mut (SameXs.of x) (all_cons hm all_nil) (all_cons (some_ne h) all_nil)
theorem Sep.sub (S : Sep M H0 G0 G H O) {O' : List Addr} (h : ∀ a ∈ O', a ∈ O) : Sep M H0 G0 G H O' := ⟨S.base, S.pm, S.sG, S.g0, S.gn, fun a ha => S.ow a (h a ha)⟩
/-- what was owned and is to stay as it is from now on -/
theorem Sep.freeze (S : Sep M H0 G0 G H O) {O' : List Addr} (hp : p ∈ O) (h : H p = some o) (hm : H0 p = none) (hO : ∀ a ∈ O', a ∈ O ∧ a ≠ p) : ∃ G', Same G G' ∧ G' p = some o ∧ Sep M H0 G0 G' H O' := by
  have ng := (S.ow p hp).1
  refine ⟨upd G p o, fun b u q => by rw [upd_ne (ne_of_none q ng)]; exact q, upd_same, S.base, S.pm, fun b u q => ?_, fun b u q => ?_, fun b hb gb => ?_, fun a ha => ?_⟩
  · by_cases z : b = p
    · subst z
      rw [upd_same] at q
      exact q ▸ h
    · rw [upd_ne z] at q
      exact S.sG b u q
  · have := S.g0 b u q
    rw [upd_ne (ne_of_none this ng)]
    exact this
  · by_cases z : b = p
    · subst z
      exact absurd hm hb
    · rw [upd_ne z]
      exact S.gn b hb gb
  · rw [upd_ne (hO a ha).2]
    exact S.ow a (hO a ha).1
/-- a callee that hands on data in a stable heap of its own -/
theorem Sep.step (S : Sep M H0 G0 G H O) {G' : Hp} (e : Same H H') (eG : Same G G') (sG : Same G' H') (hn : ∀ b, H b ≠ none → G b = none → G' b = none) : Sep M H0 G0 G' H' O := by
  have S1 := S.same e
  refine ⟨S1.base, S1.pm, sG, S.g0.trans eG, fun b hb gb => ?_, fun a ha => ⟨hn a (S.ow a ha).2.1 (S.ow a ha).1, (S1.ow a ha).2⟩⟩
  refine hn b (fun z => ?_) (S.gn b hb gb)
  exact hb (S.free z)
theorem Sep.hid (S : Sep M H0 G0 G H O) {L : List Addr} (h : ∀ a ∈ L, a ∈ O) : Same G (hideL L H) := fun b o e => by
  rw [hideL_out fun z => by
    have := (S.ow b (h b z)).1
    rw [e] at this
    cases this]
  exact S.sG b o e
end
end Vx

namespace Vx
open PySem PySem.Spec PyProof.Rows L2
/-! ### lists of plain things (f : V.int, V.bl, V.str) -/
section
variable {α : Type} {f : α → V} {H : Hp} {p : Addr}
theorem cat_map {xs ys : List α} (h : H p = some (.lst (xs.map f ++ ys.map f))) : H p = some (.lst ((xs ++ ys).map f)) := by
  rw [List.map_append]; exact h
theorem snoc_map {xs : List α} {y : α} (h : H p = some (.lst (xs.map f ++ [f y]))) : H p = some (.lst ((xs ++ [y]).map f)) := by
  rw [List.map_append]; exact h
def repL (xs : List α) (k : Int) : List α := (List.replicate k.toNat xs).flatten
theorem rep_map {xs : List α} {k : Int} (h : H p = some (.lst (List.replicate k.toNat (xs.map f)).flatten)) : H p = some (.lst ((repL xs k).map f)) := by
  rw [h]
  unfold repL
  rw [List.map_flatten, List.map_replicate]
def cutL (xs : List α) (lo hi : Option Int) : List α := (xs.drop (HT.sIx xs.length 0 lo)).take (HT.sIx xs.length xs.length hi - HT.sIx xs.length 0 lo)
theorem cut_map {xs : List α} {lo hi : Option Int} (h : H p = some (.lst (cutV (xs.map f) lo hi))) : H p = some (.lst ((cutL xs lo hi).map f)) := by
  rw [h]
  unfold cutV cutL
  rw [List.length_map, List.map_take, List.map_drop]
theorem cast_map {xs ys : List α} (h : H p = some (.lst (xs.map f))) (e : xs = ys) : H p = some (.lst (ys.map f)) := e ▸ h
theorem drop_map {xs : List α} (h : H p = some (.lst (xs.map f).dropLast)) : H p = some (.lst (xs.dropLast.map f)) := by
  rw [h, List.map_dropLast]
theorem ixN_some {n : Nat} {k : Int} (h : -(n : Int) ≤ k ∧ k < n) : ∃ j, ixN n k = some j ∧ j < n := by
  unfold ixN
  by_cases h0 : 0 ≤ k
  · exact ⟨k.toNat, by rw [if_pos h0, if_pos h.2], by omega⟩
  · exact ⟨(k + n).toNat, by rw [if_neg h0, if_pos h.1], by omega⟩
def itD [Inhabited α] (xs : List α) (k : Int) : α := (atI xs k).getD default
theorem atI_map [Inhabited α] {xs : List α} {k : Int} (h : -(xs.length : Int) ≤ k ∧ k < xs.length) : atI (xs.map f) k = some (f (itD xs k)) := by
  obtain ⟨j, e, hj⟩ := ixN_some h
  unfold itD atI
  rw [List.length_map, e]
  show (xs.map f)[j]? = some (f ((xs[j]?).getD default))
  rw [List.getElem?_map, List.getElem?_eq_getElem hj] <;> rfl
def setL (xs : List α) (k : Int) (y : α) : List α := xs.set ((ixN xs.length k).getD 0) y
theorem ixN_map {xs : List α} {k : Int} (h : -(xs.length : Int) ≤ k ∧ k < xs.length) : ixN (xs.map f).length k = some ((ixN xs.length k).getD 0) := by
  obtain ⟨j, e, hj⟩ := ixN_some h
  rw [List.length_map, e] <;> rfl
theorem set_map {xs : List α} {k : Int} {y : α} (h : H p = some (.lst ((xs.map f).set ((ixN xs.length k).getD 0) (f y)))) : H p = some (.lst ((setL xs k y).map f)) := by
  rw [h]
  unfold setL
  rw [List.map_set]
def lastD [Inhabited α] (xs : List α) : α := xs.getLastD default
theorem pop_map [Inhabited α] {xs : List α} (h : xs ≠ []) : (xs.map f)[(xs.map f).length - 1]? = some (f (lastD xs)) := by
  rw [← List.getLast?_eq_getElem?, List.getLast?_map]
  unfold lastD
  cases e : xs.getLast? with
  | none => exact absurd (List.getLast?_eq_none_iff.mp e) h
  | some y =>
    rw [List.getLastD_eq_getLast?, e] <;> rfl
end
/-! ### lists of data -/
section
variable {α β : Type} {f : α → PyData} {g : β → PyData} {G : Hp} {vs ws : List V} {xs ys : List α}
theorem app_map (a : RpAll G vs (xs.map f)) (b : RpAll G ws (ys.map f)) : RpAll G (vs ++ ws) ((xs ++ ys).map f) := by
  rw [List.map_append]; exact a.append b
theorem one_map {v : V} {y : α} (a : RpAll G vs (xs.map f)) (b : Rp G v (f y)) : RpAll G (vs ++ [v]) ((xs ++ [y]).map f) := by
  rw [List.map_append]; exact a.append (.one b)
theorem rep_all (k : Int) (a : RpAll G vs (xs.map f)) : RpAll G (List.replicate k.toNat vs).flatten ((repL xs k).map f) := by
  unfold repL
  rw [List.map_flatten, List.map_replicate]
  exact a.rep _
theorem cut_all (lo hi : Option Int) (a : RpAll G vs (xs.map f)) : RpAll G (cutV vs lo hi) ((cutL xs lo hi).map f) := by
  unfold cutV cutL
  rw [a.len, List.length_map, List.map_take, List.map_drop]
  exact (a.drop _).take _
theorem rp_cast {v : V} {d e : PyData} (r : Rp G v d) (h : d = e) : Rp G v e := h ▸ r
theorem comp_listD {i : Nat} {x : α} {y : β} {v : V} {h : α → β} (hi : xs[i]? = some x) (a : RpAll G vs (((xs.take i).map h).map g)) (r : Rp G v (g y)) (e : h x = y) : RpAll G (vs ++ [v]) (((xs.take (i + 1)).map h).map g) := by
  rw [take_succ_get hi, List.map_append, List.map_append]
  exact a.append (.one (e ▸ r))
theorem comp_rangeD {i : Nat} {y : β} {v : V} {h : Nat → β} (a : RpAll G vs (((List.range i).map h).map g)) (r : Rp G v (g y)) (e : h i = y) : RpAll G (vs ++ [v]) (((List.range (i + 1)).map h).map g) := by
  rw [List.range_succ, List.map_append, List.map_append]
  exact a.append (.one (e ▸ r))
theorem comp_doneD {n : Nat} {h : List α → List β} (hl : n = xs.length) (a : RpAll G vs ((h (xs.take n)).map g)) : RpAll G vs ((h xs).map g) := by
  rw [hl, List.take_length] at a
  exact a
theorem comp_listFD {i : Nat} {x : α} {y : β} {v : V} {h : α → β} {q : α → Bool} (hi : xs[i]? = some x) (hq : q x = true) (a : RpAll G vs ((((xs.take i).filter q).map h).map g)) (r : Rp G v (g y)) (e : h x = y) : RpAll G (vs ++ [v]) ((((xs.take (i + 1)).filter q).map h).map g) := by
  rw [take_succ_get hi, List.filter_append, List.filter_cons, if_pos hq, List.map_append, List.map_append]
  exact a.append (.one (e ▸ r))
theorem skip_listD {i : Nat} {x : α} {h : α → β} {q : α → Bool} (hi : xs[i]? = some x) (hq : q x = false) (a : RpAll G vs ((((xs.take i).filter q).map h).map g)) : RpAll G vs ((((xs.take (i + 1)).filter q).map h).map g) := by
  rw [take_succ_get hi, List.filter_append, List.filter_cons, if_neg (by rw [hq]; decide), List.filter_nil, List.append_nil]
  exact a
end
section
variable {α β : Type} {f : β → V} {H : Hp} {D : Addr} {xs : List α}
theorem compM_list {i : Nat} {x : α} {y : β} {h : α → β} (hi : xs[i]? = some x) (a : H D = some (.lst (((xs.take i).map h).map f ++ [f y]))) (e : h x = y) : H D = some (.lst (((xs.take (i + 1)).map h).map f)) := by
  rw [a, ← e, take_succ_get hi, List.map_append, List.map_append] <;> rfl
theorem compM_range {i : Nat} {y : β} {h : Nat → β} (a : H D = some (.lst (((List.range i).map h).map f ++ [f y]))) (e : h i = y) : H D = some (.lst (((List.range (i + 1)).map h).map f)) := by
  rw [a, ← e, List.range_succ, List.map_append, List.map_append] <;> rfl
theorem compM_done {n : Nat} {h : List α → List β} (hl : n = xs.length) (a : H D = some (.lst ((h (xs.take n)).map f))) : H D = some (.lst ((h xs).map f)) := by
  rw [hl, List.take_length] at a
  exact a
theorem compM_listF {i : Nat} {x : α} {y : β} {h : α → β} {q : α → Bool} (hi : xs[i]? = some x) (hq : q x = true) (a : H D = some (.lst ((((xs.take i).filter q).map h).map f ++ [f y]))) (e : h x = y) : H D = some (.lst ((((xs.take (i + 1)).filter q).map h).map f)) := by
  rw [a, ← e, take_succ_get hi, List.filter_append, List.filter_cons, if_pos hq, List.map_append, List.map_append] <;> rfl
theorem skipM_list {i : Nat} {x : α} {h : α → β} {q : α → Bool} (hi : xs[i]? = some x) (hq : q x = false) (a : H D = some (.lst ((((xs.take i).filter q).map h).map f))) : H D = some (.lst ((((xs.take (i + 1)).filter q).map h).map f)) := by
  rw [a, take_succ_get hi, List.filter_append, List.filter_cons, if_neg (by rw [hq]; decide), List.filter_nil, List.append_nil]
theorem compM_rangeF {i : Nat} {y : β} {h : Nat → β} {q : Nat → Bool} (hq : q i = true) (a : H D = some (.lst ((((List.range i).filter q).map h).map f ++ [f y]))) (e : h i = y) : H D = some (.lst ((((List.range (i + 1)).filter q).map h).map f)) := by
  rw [a, ← e, List.range_succ, List.filter_append, List.filter_cons, if_pos hq, List.map_append, List.map_append] <;> rfl
theorem skipM_range {i : Nat} {h : Nat → β} {q : Nat → Bool} (hq : q i = false) (a : H D = some (.lst ((((List.range i).filter q).map h).map f))) : H D = some (.lst ((((List.range (i + 1)).filter q).map h).map f)) := by
  rw [a, List.range_succ, List.filter_append, List.filter_cons, if_neg (by rw [hq]; decide), List.filter_nil, List.append_nil]
end
/-! ### more rules -/
section
variable {X : Cx} {K : PySem.W.Frag}
theorem ix_tupK (hK : X.K = K := by rfl) : IxR X (rIxT K) := hK ▸ ix_tup
def rLenLK (K : PySem.W.Frag) : List V → Hp → VK → Prop := fun xs H Q => ∃ (p : Addr) (vs : List V) (n : Nat), xs = [.ref p] ∧ SqL K H p vs ∧ vs.length = n ∧ Q (.int (n : Int)) H
theorem call_lenLK (hK : X.K = K := by rfl) : CallR X (.builtin "len") (rLenLK K) := by
  subst hK
  intro pins s σ H xs us Q I r h
  obtain ⟨p, vs, n, rfl, hs, hn, q⟩ := h
  exact call_len_seq pins s σ H _ us Q I r ⟨p, _, rfl, Or.inl hs, by rw [hn]; exact q⟩
def rListLK (K : PySem.W.Frag) : List V → Hp → VK → Prop := fun xs H Q => ∃ (p : Addr) (vs : List V), xs = [.ref p] ∧ SqL K H p vs ∧ ∀ l, H l = none → Q (.ref l) (upd H l (.lst vs))
theorem call_listLK (hK : X.K = K := by rfl) : CallR X (.type "list") (rListLK K) := by
  subst hK
  intro pins s σ H xs us Q I r h
  obtain ⟨p, vs, rfl, hs, q⟩ := h
  exact call_list_of pins s σ H _ us Q I r ⟨p, _, rfl, Or.inl hs, q⟩
theorem cr_anyK (hc : X.calm = true) (hK : X.K = K := by rfl) : CallR X (.builtin "any") (rAny K) := hK ▸ cr_any hc
theorem cr_allK (hc : X.calm = true) (hK : X.K = K := by rfl) : CallR X (.builtin "all") (rAll K) := hK ▸ cr_all hc
theorem pi_tupK {tg l : Expr} {tl : TE} (hl : PE X l tl) (hK : X.K = K := by rfl) : PI X tg l (iTup K tl) := hK ▸ pi_tup hl
theorem pip {op : Operator} {r : R2} (h : OpR X (inplaceOp op) r) : PIp X op r := fun pins s σ H x y v u Q I rx ry q => h pins s σ H x y v u Q I rx ry q
/-- an item at a place from 0 on, by itself (ahead of o[i] op= e) -/
def rIxP (K : PySem.W.Frag) : R2 := fun x y H Q => ∃ (p : Addr) (xs : List V) (k : Int) (v : V), x = .ref p ∧ y = .int k ∧ SqL K H p xs ∧ 0 ≤ k ∧ k < 2 ^ 62 ∧ atI xs k = some v ∧ Q v H
theorem pget_list (hK : X.K = K := by rfl) : PGet X (rIxP K) := by
  subst hK
  intro pins s σ H o i ov iv Q I ro ri h
  obtain ⟨p, xs, k, v, rfl, rfl, hq, h0, h62, ha, q⟩ := h
  cases ro
  obtain ⟨t, rfl⟩ := ri
  obtain ⟨its, r, pl, hz⟩ := I.list hq
  obtain ⟨j, h1, h2, h3, h4, h5⟩ := atI_get ha
  obtain ⟨w, ew, rw'⟩ := r.get h2
  have hj : k.toNat = j := by
    rw [seqIndex_of h0 h5] at h1
    exact Option.some.inj h1
  exact getItem_listL pl.isList h0 (by omega) (by rw [hj]; simpa using ew) ⟨v, H, I, rw', q⟩
theorem tru_map {α : Type} [DecidableEq α] {f : α → V} {xs : List α} : (!decide (xs = [])) = !(xs.map f).isEmpty := by
  cases xs <;> simp
end
end Vx

namespace Vx
open PySem PySem.Spec PyProof.Rows L2
/-! ### objects -/
section
variable {M : List Addr} {H0 G0 G H H' : Hp} {O : List Addr} {p m : Addr} {o : HO}
theorem gen_obj {x dx : Addr} {o1 o2 : HO} (nx : H x = none) (nd : H dx = none) (ne : dx ≠ x) (h : upd (upd H dx o1) x o2 = H') : Same H H' ∧ H' x = some o2 := by
  subst h
  exact ⟨fun b u e => by rw [upd_ne (ne_of_none e nx), upd_ne (ne_of_none e nd)]; exact e, upd_same⟩
theorem sameX_of {m : Addr} (x : SameXs [m] H H') : SameX m H H' := fun b o e n => x b o e (by simpa using n)
theorem g_ne {a b : Addr} (h : G a = some o) (S : Sep M H0 G0 G H O) (hb : b ∈ O) : a ≠ b := fun z => by
  have := (S.ow b hb).1
  rw [← z, h] at this
  cases this
/-- an object whose making has laid some lists -/
theorem Sep.mutnew (S : Sep M H0 G0 G H O) {L : List Addr} (x : SameXs L H H') (hL : ∀ a ∈ L, a ∈ O) (hs : ∀ a ∈ L, H' a ≠ none) (hn : H p = none) (hp : H' p ≠ none) (h0 : H0 p = none) : Sep M H0 G0 G H' (p :: O) := by
  have S1 := S.mut x hL hs
  refine ⟨S1.base, S1.pm, S1.sG, S1.g0, S1.gn, all_cons ⟨S.gfree hn, hp, .inr h0⟩ S1.ow⟩
theorem Sep.init (S : Sep M H0 G0 G H O) (x : SameX m H H') (hm : m ∈ O) (h : H' m = some o) (L : List Addr) (hL : ∀ a ∈ L, H a = none ∧ H' a ≠ none ∧ H0 a = none) : Sep M H0 G0 G H' (L ++ O) := by
  have S1 := S.mut1 x hm h
  refine ⟨S1.base, S1.pm, S1.sG, S1.g0, S1.gn, fun a ha => ?_⟩
  rcases List.mem_append.mp ha with z | z
  · obtain ⟨h1, h2, h3⟩ := hL a z
    exact ⟨S.gfree h1, h2, .inr h3⟩
  · exact S1.ow a z
end
section
variable {P : Program} {w : World} {K : PySem.W.Frag} {mg : Str → Option Value} {base : Heap}
structure MethIn (K : PySem.W.Frag) (C : Addr) (q m : Str) (st : Stmt) (ps : List Str) : Prop where
  ex : ∃ (f : Addr) (fd : FuncData), Fun K m q st f fd ∧ Meth K C m f ∧ Binds K fd ps []
structure PropIn (K : PySem.W.Frag) (C : Addr) (q m : Str) (st : Stmt) (ps : List Str) : Prop where
  ex : ∃ (r f : Addr) (fd : FuncData), Fun K m q st f fd ∧ PropOf K C m r f ∧ Binds K fd ps []
structure InitIn (K : PySem.W.Frag) (mg : Str → Option Value) (C : Addr) (cn q : Str) (st : Stmt) (ps : List Str) : Prop where
  ex : ∃ (f : Addr) (fd : FuncData), Fun K "__init__" q st f fd ∧ Mk K C f ∧ mg cn = some (.ref C) ∧ Binds K fd ps []
structure MetC (P : Program) (w : World) (K : PySem.W.Frag) (mg : Str → Option Value) (base : Heap) (k : Nat) (C : Addr) (m : Str) (sp : Sp) : Prop where
  ex : ∃ (f : Addr) (fd : FuncData) (ps : List Str), Cls K C ∧ Meth K C m f ∧ FnOk P w K mg base CX0 k f fd ps sp ∧ Binds K fd ps []
structure PropC (P : Program) (w : World) (K : PySem.W.Frag) (mg : Str → Option Value) (base : Heap) (k : Nat) (C : Addr) (m : Str) (sp : Sp) : Prop where
  ex : ∃ (q f : Addr) (fd : FuncData) (ps : List Str), Cls K C ∧ PropOf K C m q f ∧ FnOk P w K mg base CX0 k f fd ps sp ∧ Binds K fd ps []
structure MakC (P : Program) (w : World) (K : PySem.W.Frag) (mg : Str → Option Value) (base : Heap) (k : Nat) (cn : Str) (C : Addr) (sp : Sp) : Prop where
  ex : ∃ (f : Addr) (fd : FuncData) (ps : List Str), Mk K C f ∧ FnOk P w K mg base CX0 k f fd ps sp ∧ mg cn = some (.ref C) ∧ Binds K fd ps []
abbrev Body (P : Program) (w : World) (K : PySem.W.Frag) (mg : Str → Option Value) (base : Heap) (x : Str) (st : Stmt) (N : List Str) (k : Nat) (sp : Sp) : Prop :=
  ∀ (f : Addr) (cdv : Value) (A : Around) (outer : List Env) (s : Shared) (H : Hp) (vs : List V) (Q : VK) (E : XK), Room k (A.deeper (envOfC x (defScope st) s.heap.objs.size f cdv)) → sp vs H Q E →
    ∃ t, PSs (cxOf CX0 P w K mg base N x (defScope st) f cdv A outer s H E).nox (defBody st) t ∧ t { nx := fun _ H' => Q .non H', rt := Q } (start N vs) H
theorem MethIn.ok {C : Addr} {q m : Str} {st : Stmt} {N ps : List Str} {k : Nat} {sp : Sp} (D : MethIn K C q m st ps) (c : Cls K C) (S : FnScope N ps (defScope st)) (len : ∀ vs H Q E, sp vs H Q E → vs.length = ps.length)
    (hbody : Body P w K mg base q st N k sp) : MetC P w K mg base (k + 1) C m sp := by
  obtain ⟨f, fd, F, me, b⟩ := D.ex
  exact ⟨f, fd, ps, c, me, F.ok S len (fun cdv A outer s H vs Q E hr h => hbody f cdv A outer s H vs Q E hr h), b⟩
theorem PropIn.ok {C : Addr} {q m : Str} {st : Stmt} {N ps : List Str} {k : Nat} {sp : Sp} (D : PropIn K C q m st ps) (c : Cls K C) (S : FnScope N ps (defScope st)) (len : ∀ vs H Q E, sp vs H Q E → vs.length = ps.length)
    (hbody : Body P w K mg base q st N k sp) : PropC P w K mg base (k + 1) C m sp := by
  obtain ⟨r, f, fd, F, me, b⟩ := D.ex
  exact ⟨r, f, fd, ps, c, me, F.ok S len (fun cdv A outer s H vs Q E hr h => hbody f cdv A outer s H vs Q E hr h), b⟩
theorem InitIn.ok {C : Addr} {cn q : Str} {st : Stmt} {N ps : List Str} {k : Nat} {sp : Sp} (D : InitIn K mg C cn q st ps) (S : FnScope N ps (defScope st)) (len : ∀ vs H Q E, sp vs H Q E → vs.length = ps.length)
    (hbody : Body P w K mg base q st N k sp) : MakC P w K mg base (k + 1) cn C sp := by
  obtain ⟨f, fd, F, me, hm, b⟩ := D.ex
  exact ⟨f, fd, ps, me, F.ok S len (fun cdv A outer s H vs Q E hr h => hbody f cdv A outer s H vs Q E hr h), hm, b⟩
end
section
variable {X : Cx} {k j : Nat} {C : Addr} {x m : Str} {sp : Sp} {p pos apos : Pos} {e o : Expr} {es : List Expr} {ta : TE} {t : TA}
theorem vx_call0 (c : Cal X.prog X.w X.K X.mg X.base k x sp) (hr : Room j X.A) (hk : k ≤ j) (hg : Gl X x) (hdb : (x == ("__debug__" : Str)) = false := by decide) : PE X (.Call (.Name x p) [] [] pos) (tCall sp [] E0 tNil) := by
  obtain ⟨f, fd, ps, F, hm, kp, b⟩ := c.ex
  exact pe_call0 F (hr.mono hk) hg hm kp b .nil pass0 hdb
theorem vx_make (c : MakC X.prog X.w X.K X.mg X.base k x C sp) (hr : Room j X.A) (hk : k + 1 ≤ j) (hg : Gl X x) (ha : PA X (e :: es) t)
    (hdb : (x == ("__debug__" : Str)) = false := by decide) (he : starEach (e :: es) X.env = (false, eval e X.env) :: starEach es X.env := by rfl) (hpl : (backTo pos (starEach es X.env)).any (·.1) = false := by rfl) :
    PE X (.Call (.Name x p) (e :: es) [] pos) (tMake C sp [] E0 t) := by
  obtain ⟨f, fd, ps, M, F, hm, b⟩ := c.ex
  exact pe_make M F (hr.mono hk) hg hm b .nil pass0 ha hdb he hpl
theorem vx_make0 (c : MakC X.prog X.w X.K X.mg X.base k x C sp) (hr : Room j X.A) (hk : k + 1 ≤ j) (hg : Gl X x) (hdb : (x == ("__debug__" : Str)) = false := by decide) :
    PE X (.Call (.Name x p) [] [] pos) (tMake C sp [] E0 tNil) := by
  obtain ⟨f, fd, ps, M, F, hm, b⟩ := c.ex
  exact pe_make0 M F (hr.mono hk) hg hm b .nil pass0 hdb
theorem vx_meth {pl : Sem Bool} (c : MetC X.prog X.w X.K X.mg X.base k C m sp) (hr : Room j X.A) (hk : k ≤ j) (he : PE X o ta) (ha : PA X (e :: es) t)
    (hst : starEach (e :: es) X.env = (false, eval e X.env) :: starEach es X.env := by rfl) (hpl : (backTo pos (starEach es X.env)).any (·.1) = false := by rfl)
    (ht : eval (.Call (.Attribute o m apos) (e :: es) [] pos) X.env = (do
      let ov ← eval o X.env
      standAt apos.atName
      let (f, first) ← holding [ov] (getMethod ov m pl)
      callWith pos f first (backTo pos (starEach (e :: es) X.env)) (backToKw pos (keywordEach [] X.env))) := by rfl) :
    PE X (.Call (.Attribute o m apos) (e :: es) [] pos) (tMeth C m sp [] E0 ta t) := by
  obtain ⟨f, fd, ps, hc, hm, F, b⟩ := c.ex
  exact pe_meth he hc hm F (hr.mono hk) b .nil pass0 ha hst hpl ht
theorem vx_meth0 {pl : Sem Bool} (c : MetC X.prog X.w X.K X.mg X.base k C m sp) (hr : Room j X.A) (hk : k ≤ j) (he : PE X o ta)
    (ht : eval (.Call (.Attribute o m apos) [] [] pos) X.env = (do
      let ov ← eval o X.env
      standAt apos.atName
      let (f, first) ← holding [ov] (getMethod ov m pl)
      callWith pos f first (backTo pos (starEach [] X.env)) (backToKw pos (keywordEach [] X.env))) := by rfl) :
    PE X (.Call (.Attribute o m apos) [] [] pos) (tMeth C m sp [] E0 ta tNil) := by
  obtain ⟨f, fd, ps, hc, hm, F, b⟩ := c.ex
  exact pe_meth0 he hc hm F (hr.mono hk) b .nil pass0 ht
theorem vx_prop (c : PropC X.prog X.w X.K X.mg X.base k C m sp) (hr : Room j X.A) (hk : k + 1 ≤ j) (he : PE X o ta) (hab : attributeBase o m X.env (eval o X.env) = eval o X.env) : PE X (.Attribute o m pos) (tProp C sp [] E0 ta) := by
  obtain ⟨q, f, fd, ps, hc, hp, F, b⟩ := c.ex
  exact pe_prop he hc hp F (hr.mono hk) b .nil pass0 hab
end
theorem iteBNT {b : Bool} {A B : Prop} (h : b = false) (k : A) : if (!b) = true then A else B := by rw [h]; exact iteT k
theorem iteNN {b : Bool} {A B : Prop} (h : if b = true then A else B) : if (!!b) = true then A else B := by rw [Bool.not_not]; exact h
theorem iteBNF {b : Bool} {A B : Prop} (h : b = true) (k : B) : if (!b) = true then A else B := by rw [h]; exact iteF k
theorem shl_side {i j : Int} (h0 : 0 ≤ j) (h1 : j ≤ 4096) (h2 : -(2 ^ 4096) < i) (h3 : i < 2 ^ 4096) : CShl i j := by
  obtain ⟨k, rfl⟩ := Int.eq_ofNat_of_zero_le h0
  exact shl_ok (n := 4096) (by omega) (by omega)
end Vx

namespace Vx
open PySem PySem.Spec PyProof.Rows L2
section
variable {X : Cx} {K : PySem.W.Frag}
theorem fldK {e : Expr} {f : Str} {pos : Pos} {ta : TE} (he : PE X e ta) (hb : attributeBase e f X.env (eval e X.env) = eval e X.env := by rfl) (hK : X.K = K := by rfl) : PE X (.Attribute e f pos) (tFld K ta f) := hK ▸ pe_fld he hb
theorem pg_tupK {es : List Expr} {k : Nat} {t : TGs} {n : Nat} {pos : Pos} (h : PGs X es t) (hc : X.calm = true := by rfl)
    (hn : (assignEach es X.env).length = n := by rfl) (hst : (assignEach es X.env).findIdx? (·.1) = none := by rfl) (hK : X.K = K := by rfl) : PG X (.Tuple es k pos) (gTup K n t) := hK ▸ pg_tup hc h hn hst
end
end Vx

namespace Vx
open PySem PySem.Spec PyProof.Rows L2
section
variable {α β : Type} {f : α → PyData} {g : β → PyData} {fv : α → V} {gv : β → V} {G : Hp} {vs ws : List V} {xs : List α} {ys : List β}
theorem big1 {n : Nat} (h : n ≤ 1000000) : n ≤ sizeLine := smallE h
theorem cat_len (a : RpAll G vs (xs.map f)) (b : RpAll G ws (ys.map g)) (h : xs.length + ys.length ≤ 1000000) : vs.length + ws.length ≤ sizeLine := by
  rw [a.len, b.len, List.length_map, List.length_map]; exact smallE h
theorem cat_lenM (h : xs.length + ys.length ≤ 1000000) : (xs.map fv).length + (ys.map gv).length ≤ sizeLine := by
  rw [List.length_map, List.length_map]; exact smallE h
theorem rep_len {k : Nat} (a : RpAll G vs (xs.map f)) (h : xs.length * k ≤ 1000000) : vs.length * k ≤ sizeLine := by
  rw [a.len, List.length_map]; exact smallE h
theorem rep_lenM {k : Nat} (h : xs.length * k ≤ 1000000) : (xs.map fv).length * k ≤ sizeLine := by
  rw [List.length_map]; exact smallE h
theorem app_len (a : RpAll G vs (xs.map f)) (h : xs.length ≤ 1000000) : vs.length < sizeLine := by
  rw [a.len, List.length_map]; exact small h
theorem app_lenM (h : xs.length ≤ 1000000) : (xs.map fv).length < sizeLine := by
  rw [List.length_map]; exact small h
theorem cutL_len {α : Type} (xs : List α) (lo hi : Option Int) : (cutL xs lo hi).length ≤ xs.length := by
  unfold cutL
  rw [List.length_take, List.length_drop]
  omega
theorem repL_len {α : Type} (xs : List α) (k : Int) : (repL xs k).length = k.toNat * xs.length := by
  unfold repL
  simp
end
end Vx
/-! # promises of defs that know that nothing is being shown (so that repr may be called) -/
namespace Vx
open PySem PySem.Spec PyProof.Rows L2
structure RoomG (k : Nat) (A : Around) : Prop extends Room k A where
  gd : True
theorem RoomG.low {j k : Nat} {A : Around} (r : RoomG k A) (h : j ≤ k) : RoomG j A := ⟨r.toRoom.mono h, r.gd⟩
theorem RoomG.one {k : Nat} {A : Around} (r : RoomG (k + 1) A) : RoomG k A.in1 := ⟨r.toRoom.in1, r.gd⟩
theorem make_gd {A : Around} (C : Addr) (us : List Value) (kw : List (Str × Value)) (h : A.guards = some []) : (A.under (.builtin "type.__call__" ⟨.ref C :: us, kw⟩)).guards = some [] := by
  obtain ⟨hd, d, fr, gs, u⟩ := A
  subst h
  simp [Around.under, Code.guards, Code.isGuard, guardIds, pushGuards]
theorem RoomG.made {k : Nat} {A : Around} (r : RoomG (k + 1) A) (C : Addr) (us : List Value) (kw : List (Str × Value)) : RoomG k (A.under (.builtin "type.__call__" ⟨.ref C :: us, kw⟩)) := ⟨r.toRoom.make C us kw, trivial⟩
structure FnG (P : Program) (w : World) (K : PySem.W.Frag) (mg : Str → Option Value) (base : Heap) (cx : CXT) (k : Nat) (f : Addr) (fd : FuncData) (ps : List Str) (sp : Sp) : Prop where
  len : ∀ vs H Q E, sp vs H Q E → vs.length = ps.length
  run : ∀ (A : Around) (outer : List Env) (s : Shared) (H : Hp) (args : Args) (us : List Value) (vs : List V) (Q : VK) (E : XK), RoomG k A → Env0 P w K mg base A outer s H → BindsTo s fd args (ps.zip us) → Vals vs us → sp vs H Q E → codeAny (model P w) A (.call (.ref f) args) (CR cx outer P w H s Q E) s
section
variable {P : Program} {w : World} {K : PySem.W.Frag} {mg : Str → Option Value} {base : Heap} {cx : CXT} {j k : Nat} {f : Addr} {fd : FuncData} {ps : List Str} {sp sp' : Sp}
theorem FnG.imp (F : FnG P w K mg base cx k f fd ps sp) (h : ∀ vs H Q E, sp' vs H Q E → sp vs H Q E) : FnG P w K mg base cx k f fd ps sp' := ⟨fun vs H Q E q => F.len vs H Q E (h vs H Q E q), fun A o s H a us vs Q E r e b v q => F.run A o s H a us vs Q E r e b v (h vs H Q E q)⟩
/-- the body's promise is the def's -/
theorem FnG.body {x qual : Str} {params : Arguments} {body : List Stmt} {scope : Scope} {dvs : List V} {kws : List (Str × V)} {N : List Str} (F : FunD K x qual params body scope dvs kws f fd) (S : FnScope N ps scope) (len : ∀ vs H Q E, sp vs H Q E → vs.length = ps.length)
    (hb : ∀ (cdv : Value) (A : Around) (outer : List Env) (s : Shared) (H : Hp) (vs : List V) (Q : VK) (E : XK), RoomG k (A.deeper (envOfC qual scope s.heap.objs.size f cdv)) → sp vs H Q E →
      ∃ t, PSs (cxOf cx P w K mg base N qual scope f cdv A outer s H E) body t ∧ t { nx := fun _ H' => Q .non H', rt := Q } (start N vs) H) : FnG P w K mg base cx (k + 1) f fd ps sp := by
  obtain ⟨oc, od, dV, kV, doc, pm, an, cdv, ct, osl, rfl, lk, code, _, _⟩ := F.ex
  constructor
  · exact len
  · intro A outer s H args us vs Q E room env binds vals prom
    have nvs := len vs H Q E prom
    have kin : K.In s.heap := env.mod.kin.keeps fun b o q => (env.bs b o q).1
    have nolim : s.heap.NoLimit := env.mod.nolimit.keeps fun b o q => (env.bs b o q).1
    have kinds : ∀ q ∈ ps.zip us, scope.names.lookup q.1 = some .local ∨ (scope.names.lookup q.1 = some .cell ∧ ((cellsFrom (s.heap.objs.size + 1) scope.names []).lookup q.1).isSome = true) := by
      rintro ⟨n, v⟩ hq
      cases S.par n (List.of_mem_zip hq).1 with
      | inl z => exact .inl z
      | inr z => exact .inr ⟨z, PySem.W.cellsFrom_some _ _ _ (.inl z)⟩
    refine codeAny_call_function room.toRoom.depth (kin _ _ lk) rfl S.co S.gen rfl (PySem.W.codeRec_of kin code) (binds _ _ _ _ ?_)
    refine wpAny_newFunctionEnv_cells S.kind kinds ?_
    rintro _ rfl s1 made
    refine ⟨nolim.keeps made.toInCall.keep, codeAny_func ?_⟩
    obtain ⟨t, pss, start_⟩ := hb cdv A outer s H vs Q E ⟨room.toRoom.deeper _, room.gd⟩ prom
    have inv := inv_start (CX := cx) (E := E) S room.hd env nvs vals made
    have close : ∀ {τ : L2.St} {H2 : Hp} {v : V} {u : Value} {s2 : Shared}, Inv (cxOf cx P w K mg base N qual scope f cdv A outer s H E) [] τ H2 s2 → RelV v u → Q v H2 → CE outer P w H s Q u s2 := fun inv2 rel q => ⟨_, _, inv2.os, inv2.bare, inv2.base, inv2.hok, rel, q⟩
    refine wpAny_mono (pss.run [] s1 (start N vs) H _ inv start_) ?_ fun _ _ z => z
    intro flow s2 out
    cases flow with
    | next =>
      obtain ⟨τ, H2, inv2, q⟩ := out
      exact close (v := .non) (u := .none) inv2 rfl q
    | ret u =>
      obtain ⟨v, τ, H2, inv2, rel, q⟩ := out
      exact close inv2 rel q
    | brk =>
      obtain ⟨_, _, _, q⟩ := out
      exact q.elim
    | cont =>
      obtain ⟨_, _, _, q⟩ := out
      exact q.elim
/-- the same of a body that nothing leaves -/
theorem FnG.bodyN {x qual : Str} {params : Arguments} {body : List Stmt} {scope : Scope} {dvs : List V} {kws : List (Str × V)} {N : List Str} (F : FunD K x qual params body scope dvs kws f fd) (S : FnScope N ps scope) (len : ∀ vs H Q E, sp vs H Q E → vs.length = ps.length)
    (hb : ∀ (cdv : Value) (A : Around) (outer : List Env) (s : Shared) (H : Hp) (vs : List V) (Q : VK) (E : XK), RoomG k (A.deeper (envOfC qual scope s.heap.objs.size f cdv)) → sp vs H Q E →
      ∃ t, PSs (cxOf CX0 P w K mg base N qual scope f cdv A outer s H E).nox body t ∧ t { nx := fun _ H' => Q .non H', rt := Q } (start N vs) H) : FnG P w K mg base CX0 (k + 1) f fd ps sp :=
  FnG.body F S len fun cdv A outer s H vs Q E r p => by
    obtain ⟨t, h, q⟩ := hb cdv A outer s H vs Q E r p
    exact ⟨t, h.nox, q⟩
end
/-- where a law's call begins: an abstract heap that tells the script at most -/
theorem law_start {P : Program} {w : World} {K : PySem.W.Frag} {mg mb : Str → Option Value} {a : Addr} {s : Shared} {vs : List Value} {ns : List Int} (kin : K.In s.heap) (top : s.heap.Ns mainGlobals mg) (blt : s.heap.Ns builtinsNs mb) (boot : ∀ y : Str, y ≠ "__name__" → mb y = bootBuiltins y)
    (lim : s.heap.NoLimit) (gens : s.gens = #[]) (script : s.heap.get? a = some { cls := .type "list", data := .seq vs.toArray }) (whole : IntsAre vs ns) (short : ns.length ≤ sizeLine) :
    ∃ (H : Hp) (base : Heap), SqL K H a (ns.map V.int) ∧ K.In base ∧ base.Ns mainGlobals mg ∧ Env0 P w K mg base callerA [] s H ∧
      ∀ (Z : V → Prop) (u : Value) (s2 : Shared), CE [] P w H s (fun v _ => Z v) u s2 → (∃ v, RelV v u ∧ Z v) ∧ OldK s.heap s2.heap ∧ s2.os = s.os ∧ AllBare s2.gens := by
  have rel := vals_ints whole
  have lenV := whole.length
  -- any H that tells no more than the script, and that only where the written part does not hold it, will do
  have fits : ∀ H : Hp, (∀ b, H b = none ∨ ∃ o xs, H b = some (.frz o (.lst xs))) → SqL K H a (ns.map V.int) → HOk P w H s.heap → (∀ b, b ≠ a → H b = none) → (∀ o, K.lookup a = some o → H a = none) →
      ∃ (H : Hp) (base : Heap), SqL K H a (ns.map V.int) ∧ K.In base ∧ base.Ns mainGlobals mg ∧ Env0 P w K mg base callerA [] s H ∧
        ∀ (Z : V → Prop) (u : Value) (s2 : Shared), CE [] P w H s (fun v _ => Z v) u s2 → (∃ v, RelV v u ∧ Z v) ∧ OldK s.heap s2.heap ∧ s2.os = s.os ∧ AllBare s2.gens := by
    intro H only seq ok else_ apart
    have dictFree : ∀ (b : Addr) (o : Obj) (es : Array DictEntry) (n : Nat), s.heap.get? b = some o → o.data = .dict es n → H b = none := by
      intro b o es n e d
      by_cases z : b = a
      · subst z
        rw [script] at e
        injection e with e
        subst e
        cases d
      · exact else_ b z
    have nsOf : ∀ {b : Addr} {m : Str → Option Value}, s.heap.Ns b m → (hidT s.heap H).Ns b m := by
      rintro b m ⟨o, es, n, e, d, r⟩
      exact ⟨o, es, n, hidT_get e (dictFree b o es n e d), d, r⟩
    have kinB : K.In (hidT s.heap H) := by
      intro b o e
      refine hidT_get (kin b o e) ?_
      by_cases z : b = a
      · subst z
        exact apart o e
      · exact else_ b z
    obtain ⟨mc, lim1, lim2⟩ := lim
    refine ⟨H, hidT s.heap H, seq, kinB, nsOf top, ⟨rfl, ⟨kinB, nsOf top, ⟨mb, nsOf blt, boot⟩, mc, nsOf lim1, lim2⟩, fun b o e => of_hidT e, Nat.le_of_eq (hidT_size _ _), trivial, fun b hb => (nomatch (show b ∈ ([] : List Addr) from hb)), ok, .of_eq gens⟩, ?_⟩
    rintro Z u s2 ⟨v, H2, os, bare, un, ok2, r, z⟩
    refine ⟨⟨v, r, z⟩, OldK.of_keep fun b o e => ?_, os, bare⟩
    rcases only b with n | ⟨o1, xs, n⟩
    · exact un.keep b o e n (fun y => nomatch (show b ∈ ([] : List Addr) from y)) (fun y => nomatch y)
    · obtain ⟨e1, _⟩ := ok b _ n
      obtain ⟨e2, _⟩ := ok2 b _ (un.frzs b o1 _ n)
      rw [e] at e1
      injection e1 with e1
      subst e1
      exact e2
  cases kl : K.lookup a with
  | some o =>
    have e := kin a o kl
    rw [script] at e
    injection e with e
    subst e
    exact fits (fun _ => none) (fun _ => .inl rfl) (.inr ⟨_, vs.toArray, _, kl, rfl, rfl, rfl, by rw [List.size_toArray, lenV]; exact short, by simpa using rel⟩) (fun _ _ z => nomatch z) (fun _ _ => rfl) fun _ _ => rfl
  | none =>
    refine fits (fun b => if b = a then some (.frz { cls := .type "list", data := .seq vs.toArray } (.lst (ns.map V.int))) else none) ?_ (.inl (.inr ⟨_, if_pos rfl⟩)) ?_ (fun b n => if_neg n) fun o z => ?_
    · intro b
      by_cases z : b = a
      · exact .inr ⟨_, _, if_pos z⟩
      · exact .inl (if_neg z)
    · intro b u q
      by_cases z : b = a
      · subst z
        have q := (if_pos rfl).symm.trans q
        injection q with q
        subst q
        exact ⟨script, by rw [List.length_map]; exact short, vs, _, rel, script⟩
      · have q := (if_neg z).symm.trans q
        cases q
    · rw [kl] at z
      cases z
/-- the goal that the head leaves, from the law's promise; the script's numbers have at most 2 ^ 20 bits -/
theorem walkG {l : PySem.W.OpenLaw} {n k : Nat} {q : Program} {loose : List Str} {XP : (Str → Option Value) → Heap → Prop} {YP : World → Heap → Prop} {d : DefRec} {K : Params → PySem.W.Frag} {x : Str} (hn : l.most = some n) (hn2 : n ≤ sizeLine) (hdf : d.params.defaults = []) (room : Room k callerA)
    (hY : ∀ (w : World) (h : Heap), YP w h → (K w.params).In h)
    (F : ∀ (w : World) (mg : Str → Option Value) (fa : Addr) (h : Heap), (K w.params).In h → h.Ns mainGlobals mg → mg d.name = some (.ref fa) →
      ∃ fd : FuncData, (∀ (s : Shared) (u : Value), BindsTo s fd ⟨[u], []⟩ [(x, u)]) ∧ ∀ base : Heap, (K w.params).In base → base.Ns mainGlobals mg → FnG l.prog w (K w.params) mg base CX0 k fa fd [x] (fun vs H Q _ => ∃ (a : Addr) (ns : List Int), vs = [.ref a] ∧ SqL (K w.params) H a (ns.map V.int) ∧ ns.length ≤ n ∧ ∀ H', Q (.bl true) H')) :
    PySem.W.WalkO q loose XP YP l.row.toRowW d [] (fun f vs => PySem.call f vs) := by
  refine Att.attach_call hn hdf ?_
  intro w s₀ s₁ mg mb fa o pm cd doc a vs ns G Y _ _ _ hmg script whole short gens
  have kin := hY w _ Y
  obtain ⟨fd, bind, prom⟩ := F w mg fa _ kin G.T.g hmg
  obtain ⟨H, base, seq, kinB, nsB, env, fin⟩ := law_start (P := l.prog) (w := w) kin G.T.g G.T.b G.T.builtins G.T.nolimit gens script whole (Nat.le_trans short hn2)
  refine codeAny_mono ((prom base kinB nsB).run callerA [] s₁ H ⟨[.ref a], []⟩ [.ref a] [.ref a] (fun v _ => v = .bl true) (fun _ _ _ => False) ⟨room, trivial⟩ env (bind s₁ (.ref a)) (.cons rfl .nil) ⟨a, ns, rfl, seq, short, fun _ => rfl⟩) ?_
  intro r s2 out
  cases r with
  | error e => exact out.elim
  | ok flow =>
    cases flow with
    | ret u =>
      obtain ⟨⟨v, rv, z⟩, h1, h2, h3⟩ := fin (fun v => v = .bl true) u s2 out
      subst z
      obtain rfl : u = Value.bool true := rv
      exact ⟨rfl, h1, h2, h3⟩
    | next => exact out.elim
    | brk => exact out.elim
    | cont => exact out.elim
end Vx
/-! # third part: what a def computes, as a plain function with refusals -/
namespace Vx
open PySem PySem.Spec PyProof.Rows L2
inductive Rx (α : Type) where
  | ok (a : α)
  | er (e : Nat)
  | bad
def Rx.bind {α β : Type} (m : Rx α) (f : α → Rx β) : Rx β :=
  match m with
  | .ok a => f a
  | .er e => .er e
  | .bad => .bad
/-- what is wanted of an outcome -/
@[irreducible] def cW {α : Type} (m : Rx α) (K : α → Prop) (E : Nat → Prop) : Prop :=
  match m with
  | .ok a => K a
  | .er e => E e
  | .bad => False
def grd {α : Type} (p : Prop) [Decidable p] (m : Rx α) : Rx α := if p then m else .bad
/-- within a comprehension nothing may be raised -/
def noEr {α : Type} (m : Rx α) : Rx α :=
  match m with
  | .ok a => .ok a
  | _ => .bad
/-- what the clause does not name may not come -/
def tryR {α β : Type} (m : Rx α) (cs : List Nat) (f : α → Rx β) (h : Nat → Rx β) : Rx β :=
  match m with
  | .ok a => f a
  | .er e => if e ∈ cs then h e else .bad
  | .bad => .bad
def bnd {α β : Type} (a : α) (f : α → Rx β) : Rx β := f a
inductive Lp (σ ρ : Type) where
  | go (s : σ)
  | bk (s : σ)
  | rt (r : ρ)
def Lp.aft {σ ρ τ : Type} (l : Lp σ ρ) (kr : ρ → Rx τ) (k : σ → Rx τ) : Rx τ :=
  match l with
  | .go s => k s
  | .bk s => k s
  | .rt r => kr r
def forS {σ α : Type} : List α → σ → (σ → α → Rx σ) → Rx σ
  | [], s, _ => .ok s
  | x :: r, s, f => (f s x).bind fun s' => forS r s' f
def forR {σ α ρ : Type} : List α → σ → (σ → α → Rx (Lp σ ρ)) → Rx (Lp σ ρ)
  | [], s, _ => .ok (.go s)
  | x :: r, s, f => (f s x).bind fun l =>
    match l with
    | .go s' => forR r s' f
    | .bk s' => .ok (.go s')
    | .rt v => .ok (.rt v)
def whileR {σ ρ : Type} : Nat → σ → (σ → Rx (Lp σ ρ)) → Rx (Lp σ ρ)
  | 0, _, _ => .bad
  | n + 1, s, f => (f s).bind fun l =>
    match l with
    | .go s' => whileR n s' f
    | .bk s' => .ok (.go s')
    | .rt v => .ok (.rt v)
def mapA {α β : Type} : List α → List β → (α → Rx β) → Rx (List β)
  | [], acc, _ => .ok acc
  | x :: r, acc, f => grd (acc.length ≤ 1000000) ((f x).bind fun y => mapA r (acc ++ [y]) f)
def mapF {α β : Type} : List α → List β → (α → Rx (Option β)) → Rx (List β)
  | [], acc, _ => .ok acc
  | x :: r, acc, f => grd (acc.length ≤ 1000000) ((f x).bind fun y =>
    match y with
    | some z => mapF r (acc ++ [z]) f
    | none => mapF r acc f)
section
variable {α β γ σ ρ τ : Type} {K : α → Prop} {E : Nat → Prop}
theorem cW_ok {a : α} (h : cW (.ok a) K E) : K a := by
  unfold cW at h
  exact h
theorem cW_er {e : Nat} (h : cW (.er e : Rx α) K E) : E e := by
  unfold cW at h
  exact h
theorem cW_bad {C : Prop} (h : cW (.bad : Rx α) K E) : C := by
  unfold cW at h
  exact h.elim
theorem cW_mk {a : α} (h : K a) : cW (.ok a) K E := by
  unfold cW
  exact h
theorem cW_mkE {e : Nat} (h : E e) : cW (.er e : Rx α) K E := by
  unfold cW
  exact h
theorem cW_gen {m : Rx α} (h : cW m K E) : ∃ (K' : α → Prop) (E' : Nat → Prop), (∀ v, K' v → K v) ∧ (∀ e, E' e → E e) ∧ cW m K' E' := ⟨K, E, fun _ x => x, fun _ x => x, h⟩
theorem cW_grd {p : Prop} {dp : Decidable p} {m : Rx α} (h : cW (grd p m) K E) : p ∧ cW m K E := by
  unfold grd at h
  split at h
  · exact ⟨‹p›, h⟩
  · exact cW_bad h
theorem cW_pos {p : Prop} {dp : Decidable p} {a b : Rx α} (c : p) (h : cW (if p then a else b) K E) : cW a K E := by rwa [if_pos c] at h
theorem cW_neg {p : Prop} {dp : Decidable p} {a b : Rx α} (c : ¬ p) (h : cW (if p then a else b) K E) : cW b K E := by rwa [if_neg c] at h
theorem cW_call {m : Rx β} {f : β → Rx α} {K2 : β → Prop} {E2 : Nat → Prop} (h : cW (m.bind f) K E) (ho : ∀ v, cW (f v) K E → K2 v) (he : ∀ e, E e → E2 e) : cW m K2 E2 := by
  cases m with
  | ok a => exact cW_mk (ho a h)
  | er e => exact cW_mkE (he e (cW_er (α := α) h))
  | bad => exact cW_bad (α := α) h
theorem cW_push {m : Rx β} {f : β → Rx α} (h : cW (m.bind f) K E) : ∃ K2 : β → Prop, (∀ v, K2 v → cW (f v) K E) ∧ cW m K2 E := ⟨fun v => cW (f v) K E, fun _ x => x, cW_call h (fun _ x => x) fun _ x => x⟩
theorem cW_name {m : Rx α} (h : cW m K E) : ∃ K' : α → Prop, (∀ v, K' v → K v) ∧ cW m K' E := ⟨K, fun _ x => x, h⟩
theorem cW_noEr {m : Rx α} (h : cW (noEr m) K E) : cW m K (fun _ => False) := by
  cases m with
  | ok a => exact cW_mk (cW_ok (α := α) h)
  | er e => exact cW_bad (α := α) h
  | bad => exact cW_bad (α := α) h
theorem cW_try {m : Rx β} {cs : List Nat} {f : β → Rx α} {g : Nat → Rx α} {K2 : β → Prop} {E2 : Nat → Prop} (h : cW (tryR m cs f g) K E) (ho : ∀ v, cW (f v) K E → K2 v) (hc : ∀ e, e ∈ cs → cW (g e) K E → E2 e) : cW m K2 E2 := by
  cases m with
  | ok a => exact cW_mk (ho a h)
  | er e =>
    have h2 : cW (if e ∈ cs then g e else .bad) K E := h
    by_cases q : e ∈ cs
    · exact cW_mkE (hc e q (cW_pos q h2))
    · exact cW_bad (cW_neg q h2)
  | bad => exact cW_bad (α := α) h
theorem cW_bnd {a : β} {f : β → Rx α} (h : cW (bnd a f) K E) : cW (f a) K E := h
theorem cW_negB {b : Bool} {x y : Rx α} (c : b = false) (h : cW (if b = true then x else y) K E) : cW y K E := cW_neg (by rw [c]; decide) h
theorem cW_forS {xs : List β} {i : Nat} {x : β} {s : α} {f : α → β → Rx α} (hx : xs[i]? = some x) (h : cW (forS (xs.drop i) s f) K E) : cW (f s x) (fun s' => cW (forS (xs.drop (i + 1)) s' f) K E) E := by
  rw [List.drop_eq_getElem?_toList_append, hx] at h
  exact cW_call h (fun _ z => z) fun _ z => z
theorem cW_forS0 {xs : List β} {n : Nat} {s : α} {f : α → β → Rx α} (hn : n = xs.length) (h : cW (forS (xs.drop n) s f) K E) : K s := by
  subst hn
  rw [List.drop_length] at h
  exact cW_ok h
theorem cW_forR {K : Lp σ ρ → Prop} {xs : List β} {i : Nat} {x : β} {s : σ} {f : σ → β → Rx (Lp σ ρ)} (hx : xs[i]? = some x) (h : cW (forR (xs.drop i) s f) K E) :
    cW (f s x) (fun l => match l with | .go s' => cW (forR (xs.drop (i + 1)) s' f) K E | .bk s' => K (.go s') | .rt v => K (.rt v)) E := by
  rw [List.drop_eq_getElem?_toList_append, hx] at h
  refine cW_call h (fun l z => ?_) fun _ z => z
  cases l with
  | go s' => exact z
  | bk s' => exact cW_ok (K := K) (a := .go s') z
  | rt v => exact cW_ok (K := K) (a := .rt v) z
theorem cW_forR0 {K : Lp σ ρ → Prop} {xs : List β} {n : Nat} {s : σ} {f : σ → β → Rx (Lp σ ρ)} (hn : n = xs.length) (h : cW (forR (xs.drop n) s f) K E) : K (.go s) := by
  subst hn
  rw [List.drop_length] at h
  exact cW_ok h
theorem cW_whileR {K : Lp σ ρ → Prop} {m : Nat} {s : σ} {f : σ → Rx (Lp σ ρ)} (h : cW (whileR m s f) K E) :
    ∃ n, m = n + 1 ∧ cW (f s) (fun l => match l with | .go s' => cW (whileR n s' f) K E | .bk s' => K (.go s') | .rt v => K (.rt v)) E := by
  cases m with
  | zero => exact cW_bad h
  | succ n =>
    refine ⟨n, rfl, cW_call h (fun l z => ?_) fun _ z => z⟩
    cases l with
    | go s' => exact z
    | bk s' => exact cW_ok (K := K) (a := .go s') z
    | rt v => exact cW_ok (K := K) (a := .rt v) z
theorem cW_mapA {K : List α → Prop} {xs : List β} {acc : List α} {i : Nat} {x : β} {f : β → Rx α} (hx : xs[i]? = some x) (h : cW (mapA (xs.drop i) acc f) K E) :
    acc.length ≤ 1000000 ∧ cW (f x) (fun y => cW (mapA (xs.drop (i + 1)) (acc ++ [y]) f) K E) E := by
  rw [List.drop_eq_getElem?_toList_append, hx] at h
  obtain ⟨z, h⟩ := cW_grd h
  exact ⟨z, cW_call h (fun _ z => z) fun _ z => z⟩
theorem cW_mapA0 {K : List α → Prop} {xs : List β} {acc : List α} {n : Nat} {f : β → Rx α} (hn : n = xs.length) (h : cW (mapA (xs.drop n) acc f) K E) : K acc := by
  subst hn
  rw [List.drop_length] at h
  exact cW_ok h
theorem cW_mapF {K : List α → Prop} {xs : List β} {acc : List α} {i : Nat} {x : β} {f : β → Rx (Option α)} (hx : xs[i]? = some x) (h : cW (mapF (xs.drop i) acc f) K E) :
    acc.length ≤ 1000000 ∧ cW (f x) (fun y => match y with | some z => cW (mapF (xs.drop (i + 1)) (acc ++ [z]) f) K E | none => cW (mapF (xs.drop (i + 1)) acc f) K E) E := by
  rw [List.drop_eq_getElem?_toList_append, hx] at h
  obtain ⟨z, h⟩ := cW_grd h
  refine ⟨z, cW_call h (fun y z => ?_) fun _ z => z⟩
  cases y with
  | none => exact z
  | some w => exact z
theorem cW_mapF0 {K : List α → Prop} {xs : List β} {acc : List α} {n : Nat} {f : β → Rx (Option α)} (hn : n = xs.length) (h : cW (mapF (xs.drop n) acc f) K E) : K acc := by
  subst hn
  rw [List.drop_length] at h
  exact cW_ok h
end
/-- the numbers of a range -/
def rng (lo : Int) (n : Nat) : List Int := (List.range n).map fun (j : Nat) => lo + (j : Int)
theorem rng_get {lo : Int} {n i : Nat} (h : i < n) : (rng lo n)[i]? = some (lo + (i : Int)) := by
  unfold rng
  rw [List.getElem?_map, List.getElem?_range h] <;> rfl
theorem rng_len (lo : Int) (n : Nat) : (rng lo n).length = n := by
  unfold rng
  rw [List.length_map, List.length_range]

def rngD (lo : Int) (n : Nat) : List Int := (List.range n).map fun (j : Nat) => lo + (j : Int) * (-1)
theorem rngD_get {lo : Int} {n i : Nat} (h : i < n) : (rngD lo n)[i]? = some (lo + (i : Int) * (-1)) := by
  unfold rngD
  rw [List.getElem?_map, List.getElem?_range h] <;> rfl
theorem rngD_len (lo : Int) (n : Nat) : (rngD lo n).length = n := by
  unfold rngD
  rw [List.length_map, List.length_range]

/-! ### calls that may raise -/
/-- what a call with n values and keywords ks gives the parameters -/
structure Bnd (K : PySem.W.Frag) (fd : FuncData) (ps : List Str) (n : Nat) (ks : List Str) (g : List V → List V → List V) : Prop where
  to : ∀ (s : Shared) (us ws : List Value) (vs zs : List V), K.In s.heap → vs.length = n → zs.length = ks.length → Vals vs us → Vals zs ws → ∃ vv : List Value, BindsTo s fd ⟨us, ks.zip ws⟩ (ps.zip vv) ∧ Vals (g vs zs) vv
theorem Bnd.of_kbn {K : PySem.W.Frag} {fd : FuncData} {ps ks : List Str} {n : Nat} {g : List Value → List Value → List Value} {gV : List V → List V → List V} (b : KBn K fd ps n ks g gV) : Bnd K fd ps n ks gV :=
  ⟨fun s us ws vs zs X l1 l2 r rz => ⟨g us ws, b.to s us ws X (r.length.symm.trans l1) (rz.length.symm.trans l2), b.rel r rz⟩⟩
theorem Bnd.all {K : PySem.W.Frag} {fd : FuncData} {ps ks : List Str} {n : Nat} {g : List V → List V → List V} (h : ∀ (us ws : List Value) (vs zs : List V), vs.length = n → zs.length = ks.length → Vals vs us → Vals zs ws →
    ∃ vv : List Value, bindArgs fd ⟨us, ks.zip ws⟩ = pure (ps.zip vv) ∧ Vals (g vs zs) vv) : Bnd K fd ps n ks g :=
  ⟨fun s us ws vs zs _ l1 l2 r rz => by
    obtain ⟨vv, e, q⟩ := h us ws vs zs l1 l2 r rz
    exact ⟨vv, BindsTo.of_eq e, q⟩⟩
abbrev Pat := Nat × List Str × (List V → List V → List V)
def Bnd1 (K : PySem.W.Frag) (fd : FuncData) (ps : List Str) (p : Pat) : Prop := Bnd K fd ps p.1 p.2.1 p.2.2
section
variable {P : Program} {w : World} {K : PySem.W.Frag} {mg : Str → Option Value} {base : Heap}
/-- a def of the top, with the ways it is called -/
structure DefX (K : PySem.W.Frag) (mg : Str → Option Value) (x : Str) (st : Stmt) (ps : List Str) (pats : List Pat) : Prop where
  ex : ∃ (f : Addr) (fd : FuncData) (dvs : List V) (kws : List (Str × V)), FunD K x x (defArgs st) (defBody st) (defScope st) dvs kws f fd ∧ mg x = some (.ref f) ∧ ∀ p ∈ pats, Bnd1 K fd ps p
structure CalX (P : Program) (w : World) (K : PySem.W.Frag) (mg : Str → Option Value) (base : Heap) (k : Nat) (x : Str) (sp : Sp) (pats : List Pat) : Prop where
  ex : ∃ (f : Addr) (fd : FuncData) (ps : List Str), FnG P w K mg base (L2.CX P w) k f fd ps sp ∧ mg x = some (.ref f) ∧ PySem.W.keepIn K (.ref f) = true ∧ ∀ p ∈ pats, Bnd1 K fd ps p
abbrev BodyX (P : Program) (w : World) (K : PySem.W.Frag) (mg : Str → Option Value) (base : Heap) (x : Str) (st : Stmt) (N : List Str) (k : Nat) (sp : Sp) : Prop :=
  ∀ (f : Addr) (cdv : Value) (A : Around) (outer : List Env) (s : Shared) (H : Hp) (vs : List V) (Q : VK) (E : XK), RoomG k (A.deeper (envOfC x (defScope st) s.heap.objs.size f cdv)) → sp vs H Q E →
    ∃ t, PSs (cxOf (L2.CX P w) P w K mg base N x (defScope st) f cdv A outer s H E) (defBody st) t ∧ t { nx := fun _ H' => Q .non H', rt := Q } (start N vs) H
theorem DefX.ok {x : Str} {st : Stmt} {N ps : List Str} {pats : List Pat} {k : Nat} {sp : Sp} (D : DefX K mg x st ps pats) (S : FnScope N ps (defScope st)) (len : ∀ vs H Q E, sp vs H Q E → vs.length = ps.length)
    (hbody : BodyX P w K mg base x st N k sp) : CalX P w K mg base (k + 1) x sp pats := by
  obtain ⟨f, fd, dvs, kws, F, hm, b⟩ := D.ex
  exact ⟨f, fd, ps, FnG.body F S len (fun cdv A outer s H vs Q E hr h => hbody f cdv A outer s H vs Q E hr h), hm, F.kp, b⟩
end
section
variable {X : Cx} {k j n : Nat} {f : Addr} {fd : FuncData} {ps ks : List Str} {g : List V → List V → List V} {sp : Sp} {x : Str} {pos p : Pos} {e : Expr} {es : List Expr} {kws : List Keyword} {t tk : TA} {W : WX}
theorem run_X {pins : List (Addr × Obj)} {σ : L2.St} {H : Hp} {s : Shared} {Q : VK} {us ws : List Value} {vs zs : List V} (F : FnG X.prog X.w X.K X.mg X.base (L2.CX X.prog X.w) k f fd ps sp) (hr : RoomG k X.A) (hb : Bnd X.K fd ps n ks g) (tkW : Takes X W)
    (I : Inv X pins σ H s) (r : Vals vs us) (rz : Vals zs ws) (l1 : vs.length = n) (l2 : zs.length = ks.length) (h : sp (g vs zs) H Q (WE W σ)) :
    wpAny (model X.prog X.w) X.A (call (.ref f) us (ks.zip ws)) (EP X pins σ Q) X.xe s := by
  obtain ⟨vv, b, r2⟩ := hb.to s us ws vs zs I.kIn l1 l2 r rz
  refine wpAny_call (codeAny_mono (F.run X.A X.stack s H ⟨us, ks.zip ws⟩ vv (g vs zs) Q (WE W σ) hr I.env0 b r2 h) fun rr s' hq => ?_)
  cases rr with
  | error er => exact passAt tkW σ pins H s er s' I hq
  | ok fl =>
    cases fl with
    | ret u => exact I.after hq
    | next => exact hq.elim
    | brk => exact hq.elim
    | cont => exact hq.elim
/-- f(e, .., k = v, ..) -/
def tCallX (n m : Nat) (sp : Sp) (g : List V → List V → List V) (W : WX) (t tk : TA) : TE := fun σ H Q => t σ H fun vs H1 => tk σ H1 fun zs H2 => vs.length = n ∧ zs.length = m ∧ sp (g vs zs) H2 Q (WE W σ)
theorem vx_callX {pats : List Pat} (c : CalX X.prog X.w X.K X.mg X.base k x sp pats) (pt : Pat) (hpt : pt ∈ pats) (hr : RoomG j X.A) (hk : k ≤ j) (tkW : Takes X W) (hg : Gl X x) (ha : PA X (e :: es) t) (hkw : PK X kws tk)
    (hall : (backToKw pos (keywordEach kws X.env)).all (·.1.isSome) = true := by rfl) (hks : (backToKw pos (keywordEach kws X.env)).filterMap (·.1) = pt.2.1 := by rfl)
    (hdb : (x == ("__debug__" : Str)) = false := by decide) (he : starEach (e :: es) X.env = (false, eval e X.env) :: starEach es X.env := by rfl)
    (hpl : ((backTo pos (starEach (e :: es) X.env)).any (·.1) || (backToKw pos (keywordEach kws X.env)).any (·.1.isNone)) = false := by rfl) :
    PE X (.Call (.Name x p) (e :: es) kws pos) (tCallX pt.1 pt.2.1.length sp pt.2.2 W t tk) := by
  obtain ⟨f, fd, ps, F, hm, kp, b⟩ := c.ex
  refine ⟨fun pins s σ H Q I h => ?_⟩
  refine wpAny_Call_Name_kw (ld_glob I hg hm ?_ hdb)
  refine PySem.W.callWith_KW (h₀ := X.base) I.ok.mod.kin kp hall (thn (ha.run pos pins s σ H _ I h) fun us s1 ⟨vs, H1, I1, r, q⟩ => ?_) hpl he
  refine thn (hkw.run pos pins s1 σ H1 _ I1 q) fun ws s2 ⟨zs, H2, I2, rz, l1, l2, q2⟩ => ⟨I2.kIn, ?_⟩
  rw [hks]
  exact run_X F (hr.low hk) (b pt hpt) tkW I2 r rz l1 l2 q2
theorem vx_callX0 {pats : List Pat} (c : CalX X.prog X.w X.K X.mg X.base k x sp pats) (pt : Pat) (hpt : pt ∈ pats) (hr : RoomG j X.A) (hk : k ≤ j) (tkW : Takes X W) (hg : Gl X x) (hks : pt.2.1 = [] := by rfl)
    (hdb : (x == ("__debug__" : Str)) = false := by decide) : PE X (.Call (.Name x p) [] [] pos) (tCallX pt.1 pt.2.1.length sp pt.2.2 W tNil tNil) := by
  obtain ⟨f, fd, ps, F, hm, kp, b⟩ := c.ex
  refine ⟨fun pins s σ H Q I h => ?_⟩
  refine wpAny_Call_Name_kw (ld_glob I hg hm ?_ hdb)
  obtain ⟨l1, l2, q2⟩ := h
  have hz := run_X (us := []) (ws := []) F (hr.low hk) (b pt hpt) tkW I .nil .nil l1 l2 q2
  rw [hks] at hz
  exact PySem.W.callWith_K0 I.kIn kp hz
end
/-! ### borrowed things -/
theorem Sep.bM {M : List Addr} {H0 G0 G H : Hp} {O : List (Addr)} (S : Sep M H0 G0 G H O) : Same (hideL M H0) H := fun b o e => by
  by_cases h : b ∈ M
  · rw [hideL_in h] at e
    cases e
  · rw [hideL_out h] at e
    exact S.base b o e h
theorem b_ne {M : List Addr} {H0 G0 G H : Hp} {O : List Addr} {a b : Addr} {o : HO} (h : (hideL M H0) a = some o) (S : Sep M H0 G0 G H O) (hb : b ∈ O) : a ≠ b := fun z => by
  subst z
  rcases (S.ow a hb).2.2 with q | q
  · rw [hideL_in q] at h
    cases h
  · by_cases hM : a ∈ M
    · rw [hideL_in hM] at h
      cases h
    · rw [hideL_out hM, q] at h
      cases h
theorem hide0 {H : Hp} : hideL [] H = H := by
  funext b
  unfold hideL
  rw [if_neg List.not_mem_nil]
theorem hide_nil {H : Hp} {a : Addr} {o : HO} (h : H a = some o) : (hideL [] H) a = some o := by
  rw [hide0]
  exact h
theorem Rp.hide_nil {H : Hp} {v : V} {d : PyData} (h : Rp H v d) : Rp (hideL [] H) v d := by
  rw [hide0]
  exact h
theorem Sep.startM {M : List Addr} {G H : Hp} (e : Same G H) (hM : ∀ a ∈ M, H a ≠ none) (hG : ∀ a ∈ M, G a = none) : Sep M H G G H M :=
  ⟨fun _ _ e _ => e, hM, e, Same.refl _, fun _ _ e => e, fun a ha => ⟨hG a ha, hM a ha, .inl ha⟩⟩
theorem Sep.gno {M : List Addr} {H0 G0 G H : Hp} {O L : List Addr} (S : Sep M H0 G0 G H O) (h : ∀ a ∈ L, a ∈ O) : ∀ a ∈ L, G a = none := fun a ha => (S.ow a (h a ha)).1
theorem RpAll.ixD {α : Type} [Inhabited α] {f : α → PyData} {H : Hp} {vs : List V} {xs : List α} {k : Int} (r : RpAll H vs (xs.map f)) (h : -(xs.length : Int) ≤ k ∧ k < xs.length) : ∃ v, atI vs k = some v ∧ Rp H v (f (itD xs k)) := by
  obtain ⟨v, x, h1, h2, h3⟩ := RpAll.ix r h
  refine ⟨v, h1, ?_⟩
  unfold itD
  rw [h2]
  exact h3
theorem tru_all {α : Type} [DecidableEq α] {f : α → PyData} {H : Hp} {vs : List V} {xs : List α} (r : RpAll H vs (xs.map f)) : (!decide (xs = [])) = !vs.isEmpty := by
  have h := r.len
  rw [List.length_map] at h
  cases xs <;> cases vs <;> simp_all
theorem ix_nn {α : Type} {xs : List α} {k : Int} (h0 : 0 ≤ k) (h1 : k < xs.length) : -(xs.length : Int) ≤ k ∧ k < xs.length := ⟨by omega, h1⟩
theorem all_nilQ {α : Type} {P : α → Prop} : ∀ x ∈ ([] : List α), P x := fun x h => by cases h
theorem all_consQ {α : Type} {P : α → Prop} {a : α} {l : List α} (h : P a) (t : ∀ x ∈ l, P x) : ∀ x ∈ a :: l, P x := fun x hx => by
  rcases List.mem_cons.mp hx with rfl | hx
  · exact h
  · exact t x hx
theorem mem_one {a b : Nat} (h : a ∈ [b]) : a = b := by simpa using h
theorem mem_cons2 {a b : Nat} {l : List Nat} (h : a ∈ b :: l) : a = b ∨ a ∈ l := List.mem_cons.mp h
theorem len0 {α : Type} {l : List α} (h : l.length = 0) : l = [] := List.length_eq_zero_iff.mp h
theorem len1 {α : Type} {l : List α} (h : l.length = 1) : ∃ a, l = [a] := List.length_eq_one_iff.mp h
theorem len_s {α : Type} {l : List α} {n : Nat} (h : l.length = n + 1) : ∃ a r, l = a :: r ∧ r.length = n := by
  cases l with
  | nil => cases h
  | cons a r => exact ⟨a, r, rfl, Nat.succ.inj h⟩
theorem len2 {α : Type} {l : List α} (h : l.length = 2) : ∃ a b, l = [a, b] := by
  obtain ⟨a, r, rfl, h2⟩ := len_s h
  obtain ⟨b, rfl⟩ := len1 h2
  exact ⟨a, b, rfl⟩
theorem len3 {α : Type} {l : List α} (h : l.length = 3) : ∃ a b c, l = [a, b, c] := by
  obtain ⟨a, r, rfl, h2⟩ := len_s h
  obtain ⟨b, c, rfl⟩ := len2 h2
  exact ⟨a, b, c, rfl⟩
theorem len4 {α : Type} {l : List α} (h : l.length = 4) : ∃ a b c d, l = [a, b, c, d] := by
  obtain ⟨a, r, rfl, h2⟩ := len_s h
  obtain ⟨b, c, d, rfl⟩ := len3 h2
  exact ⟨a, b, c, d, rfl⟩
theorem len5 {α : Type} {l : List α} (h : l.length = 5) : ∃ a b c d e, l = [a, b, c, d, e] := by
  obtain ⟨a, r, rfl, h2⟩ := len_s h
  obtain ⟨b, c, d, e, rfl⟩ := len4 h2
  exact ⟨a, b, c, d, e, rfl⟩
theorem len6 {α : Type} {l : List α} (h : l.length = 6) : ∃ a b c d e f, l = [a, b, c, d, e, f] := by
  obtain ⟨a, r, rfl, h2⟩ := len_s h
  obtain ⟨b, c, d, e, f, rfl⟩ := len5 h2
  exact ⟨a, b, c, d, e, f, rfl⟩
theorem len7 {α : Type} {l : List α} (h : l.length = 7) : ∃ a b c d e f g, l = [a, b, c, d, e, f, g] := by
  obtain ⟨a, r, rfl, h2⟩ := len_s h
  obtain ⟨b, c, d, e, f, g, rfl⟩ := len6 h2
  exact ⟨a, b, c, d, e, f, g, rfl⟩
def rLenTK (K : PySem.W.Frag) : List V → Hp → VK → Prop := fun xs H Q => ∃ (p : Addr) (vs : List V) (n : Nat), xs = [.ref p] ∧ SqT K H p vs ∧ vs.length = n ∧ Q (.int (n : Int)) H
theorem call_lenTK {X : Cx} {K : PySem.W.Frag} (hK : X.K = K := by rfl) : CallR X (.builtin "len") (rLenTK K) := by
  subst hK
  intro pins s σ H xs us Q I r h
  obtain ⟨p, vs, n, rfl, hs, hn, q⟩ := h
  exact call_len_seq pins s σ H _ us Q I r ⟨p, _, rfl, Or.inr hs, by rw [hn]; exact q⟩
theorem exm_mk {K : PySem.W.Frag} {S C : Addr} (h1 : PySem.W.subIn K (.ref C) (.type "BaseException") = some true) (h2 : PySem.W.isClsIn K C = true) (h3 : PySem.W.typeIn K (.ref C) = some (.type "type")) (h4 : PySem.W.subIn K (.ref S) (.ref C) = some true) :
    PySem.W.exmOne K (.ref S) (.ref C) = some true := by
  unfold PySem.W.isClsIn at h2
  unfold PySem.W.exmOne
  unfold PySem.W.kitCls
  simp only [h1, h2, h3, h4, beq_self_eq_true, Bool.and_self, if_true]
theorem kit_mk {K : PySem.W.Frag} {S C : Addr} (h2 : PySem.W.isClsIn K C = true) (h3 : PySem.W.typeIn K (.ref C) = some (.type "type")) (h4 : PySem.W.subIn K (.ref S) (.ref C) = some true) :
    PySem.W.kitOne K (.ref S) (.ref C) = some true := by
  unfold PySem.W.isClsIn at h2
  unfold PySem.W.kitOne
  split
  · rfl
  · unfold PySem.W.kitCls
    simp only [h2, h3, h4, beq_self_eq_true, Bool.and_self, if_true]
/-- isinstance(e, C) of the exception in hand -/
def rIsX (K : PySem.W.Frag) (a : Addr) (cls : Value) (d : Option Addr) : List V → Hp → VK → Prop := fun xs H Q => ∃ (D C : Addr) (b : Bool), cls = .ref D ∧ d = none ∧ ExcC K D ∧ xs = [.ref a, .ref C] ∧ PySem.W.kitOne K (.ref D) (.ref C) = some b ∧ Q (.bl b) H
theorem call_isX {X : Cx} {K : PySem.W.Frag} {a : Addr} {cls : Value} {d : Option Addr} {oe : Obj} {pn : List (Addr × Obj)} (hz : Zc cls d oe) (hf : ∃ vs, oe.data = .fields vs) (hK : X.K = K := by rfl) : CallR (X.suite a ((a, oe) :: pn)) (.builtin "isinstance") (rIsX K a cls d) := by
  subst hK
  intro pins s σ H xs us Q I r h
  obtain ⟨D, C, b, rfl, rfl, c, rfl, e, q⟩ := h
  exact call_isE c hz hf pins s σ H _ us Q I r ⟨_, _, b, rfl, fun u z => z, e, q⟩
/-! ### unpacking a list -/
section
variable {X : Cx} {K : PySem.W.Frag} {pos : Pos}
theorem pg_seqK {es : List Expr} {k : Nat} {t : TGs} {n : Nat} (h : PGs X es t) (hc : X.calm = true := by rfl) (hK : X.K = K := by rfl)
    (hn : (assignEach es X.env).length = n := by rfl) (hst : (assignEach es X.env).findIdx? (·.1) = none := by rfl) : PG X (.Tuple es k pos) (gLst K n t) := hK ▸ pg_lst hc h hn hst
end
theorem SqL.cast {K : PySem.W.Frag} {H : Hp} {a : Addr} {xs ys : List V} (h : SqL K H a xs) (e : xs = ys) : SqL K H a ys := e ▸ h
section
variable {α : Type} [Inhabited α] {f : α → V}
theorem unp2 {xs : List α} (h : xs.length = 2) : xs.map f = [f (itD xs 0), f (itD xs 1)] := by
  obtain ⟨a, b, rfl⟩ := len2 h
  rfl
theorem unp3 {xs : List α} (h : xs.length = 3) : xs.map f = [f (itD xs 0), f (itD xs 1), f (itD xs 2)] := by
  obtain ⟨a, b, c, rfl⟩ := len3 h
  rfl
theorem unp4 {xs : List α} (h : xs.length = 4) : xs.map f = [f (itD xs 0), f (itD xs 1), f (itD xs 2), f (itD xs 3)] := by
  obtain ⟨a, b, c, d, rfl⟩ := len4 h
  rfl
theorem unp6 {xs : List α} (h : xs.length = 6) : xs.map f = [f (itD xs 0), f (itD xs 1), f (itD xs 2), f (itD xs 3), f (itD xs 4), f (itD xs 5)] := by
  obtain ⟨a, b, c, d, e, g, rfl⟩ := len6 h
  rfl
theorem unp8 {xs : List α} (h : xs.length = 8) : xs.map f = [f (itD xs 0), f (itD xs 1), f (itD xs 2), f (itD xs 3), f (itD xs 4), f (itD xs 5), f (itD xs 6), f (itD xs 7)] := by
  obtain ⟨a, r, rfl, h2⟩ := len_s h
  obtain ⟨b, c, d, e, g, i, j, rfl⟩ := len7 h2
  rfl
end
/-! ### classes -/
section
variable {P : Program} {w : World} {K : PySem.W.Frag} {mg : Str → Option Value} {base : Heap}
structure MethX (K : PySem.W.Frag) (C : Addr) (q m : Str) (st : Stmt) (ps : List Str) (pats : List Pat) : Prop where
  ex : ∃ (f : Addr) (fd : FuncData) (dvs : List V) (kws : List (Str × V)), FunD K m q (defArgs st) (defBody st) (defScope st) dvs kws f fd ∧ Meth K C m f ∧ ∀ p ∈ pats, Bnd1 K fd ps p
structure InitX (K : PySem.W.Frag) (mg : Str → Option Value) (C : Addr) (cn q : Str) (st : Stmt) (ps : List Str) (pats : List Pat) : Prop where
  ex : ∃ (f : Addr) (fd : FuncData) (dvs : List V) (kws : List (Str × V)), FunD K "__init__" q (defArgs st) (defBody st) (defScope st) dvs kws f fd ∧ Mk K C f ∧ mg cn = some (.ref C) ∧ ∀ p ∈ pats, Bnd1 K fd ps p
structure PropX (K : PySem.W.Frag) (C : Addr) (q m : Str) (st : Stmt) (ps : List Str) (pats : List Pat) : Prop where
  ex : ∃ (r f : Addr) (fd : FuncData) (dvs : List V) (kws : List (Str × V)), FunD K m q (defArgs st) (defBody st) (defScope st) dvs kws f fd ∧ PropOf K C m r f ∧ Binds K fd ps []
structure MetX (P : Program) (w : World) (K : PySem.W.Frag) (mg : Str → Option Value) (base : Heap) (k : Nat) (C : Addr) (m : Str) (sp : Sp) (pats : List Pat) : Prop where
  ex : ∃ (f : Addr) (fd : FuncData) (ps : List Str), Cls K C ∧ Meth K C m f ∧ FnG P w K mg base (L2.CX P w) k f fd ps sp ∧ ∀ p ∈ pats, Bnd1 K fd ps p
structure PropY (P : Program) (w : World) (K : PySem.W.Frag) (mg : Str → Option Value) (base : Heap) (k : Nat) (C : Addr) (m : Str) (sp : Sp) (pats : List Pat) : Prop where
  ex : ∃ (q f : Addr) (fd : FuncData) (ps : List Str), Cls K C ∧ PropOf K C m q f ∧ FnG P w K mg base (L2.CX P w) k f fd ps sp ∧ Binds K fd ps []
structure MakX (P : Program) (w : World) (K : PySem.W.Frag) (mg : Str → Option Value) (base : Heap) (k : Nat) (cn : Str) (C : Addr) (sp : Sp) (pats : List Pat) : Prop where
  ex : ∃ (f : Addr) (fd : FuncData) (ps : List Str), Mk K C f ∧ FnG P w K mg base (L2.CX P w) k f fd ps sp ∧ mg cn = some (.ref C) ∧ ∀ p ∈ pats, Bnd1 K fd ps p
theorem MethX.ok {C : Addr} {q m : Str} {st : Stmt} {N ps : List Str} {pats : List Pat} {k : Nat} {sp : Sp} (D : MethX K C q m st ps pats) (c : Cls K C) (S : FnScope N ps (defScope st)) (len : ∀ vs H Q E, sp vs H Q E → vs.length = ps.length)
    (hbody : BodyX P w K mg base q st N k sp) : MetX P w K mg base (k + 1) C m sp pats := by
  obtain ⟨f, fd, dvs, kws, F, me, b⟩ := D.ex
  exact ⟨f, fd, ps, c, me, FnG.body F S len (fun cdv A outer s H vs Q E hr h => hbody f cdv A outer s H vs Q E hr h), b⟩
theorem PropX.ok {C : Addr} {q m : Str} {st : Stmt} {N ps : List Str} {pats : List Pat} {k : Nat} {sp : Sp} (D : PropX K C q m st ps pats) (c : Cls K C) (S : FnScope N ps (defScope st)) (len : ∀ vs H Q E, sp vs H Q E → vs.length = ps.length)
    (hbody : BodyX P w K mg base q st N k sp) : PropY P w K mg base (k + 1) C m sp pats := by
  obtain ⟨r, f, fd, dvs, kws, F, me, b⟩ := D.ex
  exact ⟨r, f, fd, ps, c, me, FnG.body F S len (fun cdv A outer s H vs Q E hr h => hbody f cdv A outer s H vs Q E hr h), b⟩
theorem InitX.ok {C : Addr} {cn q : Str} {st : Stmt} {N ps : List Str} {pats : List Pat} {k : Nat} {sp : Sp} (D : InitX K mg C cn q st ps pats) (S : FnScope N ps (defScope st)) (len : ∀ vs H Q E, sp vs H Q E → vs.length = ps.length)
    (hbody : BodyX P w K mg base q st N k sp) : MakX P w K mg base (k + 1) cn C sp pats := by
  obtain ⟨f, fd, dvs, kws, F, me, hm, b⟩ := D.ex
  exact ⟨f, fd, ps, me, FnG.body F S len (fun cdv A outer s H vs Q E hr h => hbody f cdv A outer s H vs Q E hr h), hm, b⟩
end
theorem cW_callN {α β : Type} {m : Rx β} {f : β → Rx α} {K : α → Prop} {E : Nat → Prop} {K2 : β → Prop} {E2 : Nat → Prop} (h : cW ((noEr m).bind f) K E) (ho : ∀ v, cW (f v) K E → K2 v) (_ : True) : cW m K2 E2 := by
  cases m with
  | ok a => exact cW_mk (ho a h)
  | er e => exact cW_bad (α := α) h
  | bad => exact cW_bad (α := α) h
section
variable {X : Cx} {k j n : Nat} {f C : Addr} {fd : FuncData} {ps ks : List Str} {g : List V → List V → List V} {sp : Sp} {x m : Str} {pos p apos : Pos} {e o : Expr} {es : List Expr} {kws : List Keyword} {ta : TE} {t tk : TA} {W : WX}
theorem run_mkX {pins : List (Addr × Obj)} {σ : L2.St} {H : Hp} {s : Shared} {Q : VK} {us ws : List Value} {vs zs : List V} (M : Mk X.K C f) (F : FnG X.prog X.w X.K X.mg X.base (L2.CX X.prog X.w) k f fd ps sp) (hr : RoomG (k + 1) X.A) (hb : Bnd X.K fd ps n ks g) (tkW : Takes X W)
    (I : Inv X pins σ H s) (r : Vals vs us) (rz : Vals zs ws) (l1 : vs.length + 1 = n) (l2 : zs.length = ks.length)
    (h : ∀ x dx, H x = none → H dx = none → dx ≠ x → sp (g (.ref x :: vs) zs) (upd (upd H dx (.own x)) x (.ins C dx [])) (fun v H2 => v = .non ∧ Q (.ref x) H2) (WE W σ)) :
    wpAny (model X.prog X.w) X.A (call (.ref C) us (ks.zip ws)) (EP X pins σ Q) X.xe s := by
  have hq := h (s.heap.objs.size + 1) s.heap.objs.size (I.hok.fresh (Nat.le_succ _)) (I.hok.fresh (Nat.le_refl _)) (Nat.ne_of_lt (Nat.lt_succ_self _))
  have I2 := Inv.made (C := C) I
  have r1 : Vals (V.ref (s.heap.objs.size + 1) :: vs) (Value.ref (s.heap.objs.size + 1) :: us) := .cons rfl r
  obtain ⟨vv, b, r2⟩ := hb.to _ (Value.ref (s.heap.objs.size + 1) :: us) ws (V.ref (s.heap.objs.size + 1) :: vs) zs I2.kIn (by rw [List.length_cons, l1]) l2 r1 rz
  refine wpAny_call (make_map (f := f) I.kIn M.makes M.init (beq_iff_eq.mp M.fn) (codeAny_mono (F.run _ X.stack _ _ ⟨Value.ref (s.heap.objs.size + 1) :: us, ks.zip ws⟩ vv _ _ (WE W σ) (hr.made C us (ks.zip ws))
    (I2.env0.make C us (ks.zip ws)) b r2 hq) fun r s' hq' => ?_))
  cases r with
  | error e => exact passAt tkW σ pins _ _ e s' I2 hq'
  | ok fl =>
    cases fl with
    | ret u =>
      obtain ⟨v, H', I3, rv, ev, q3⟩ := I2.after hq'
      subst ev
      exact ⟨rv, ⟨V.ref (s.heap.objs.size + 1), H', I3, rfl, q3⟩⟩
    | next => exact False.elim hq'
    | brk => exact False.elim hq'
    | cont => exact False.elim hq'
/-- C(e, .., k = v, ..) -/
def tMakeX (C : Addr) (n m : Nat) (sp : Sp) (g : List V → List V → List V) (W : WX) (t tk : TA) : TE := fun σ H Q => t σ H fun vs H1 => tk σ H1 fun zs H2 => vs.length + 1 = n ∧ zs.length = m ∧ ∀ x dx, H2 x = none → H2 dx = none → dx ≠ x →
  sp (g (.ref x :: vs) zs) (upd (upd H2 dx (.own x)) x (.ins C dx [])) (fun v H3 => v = .non ∧ Q (.ref x) H3) (WE W σ)
theorem vx_makeX {pats : List Pat} (c : MakX X.prog X.w X.K X.mg X.base k x C sp pats) (pt : Pat) (hpt : pt ∈ pats) (hr : RoomG j X.A) (hk : k + 1 ≤ j) (tkW : Takes X W) (hg : Gl X x) (ha : PA X (e :: es) t) (hkw : PK X kws tk)
    (hall : (backToKw pos (keywordEach kws X.env)).all (·.1.isSome) = true := by rfl) (hks : (backToKw pos (keywordEach kws X.env)).filterMap (·.1) = pt.2.1 := by rfl) (hdb : (x == ("__debug__" : Str)) = false := by decide)
    (he : starEach (e :: es) X.env = (false, eval e X.env) :: starEach es X.env := by rfl) (hpl : ((backTo pos (starEach (e :: es) X.env)).any (·.1) || (backToKw pos (keywordEach kws X.env)).any (·.1.isNone)) = false := by rfl) :
    PE X (.Call (.Name x p) (e :: es) kws pos) (tMakeX C pt.1 pt.2.1.length sp pt.2.2 W t tk) := by
  obtain ⟨f, fd, ps, M, F, hm, b⟩ := c.ex
  refine ⟨fun pins s σ H Q I h => ?_⟩
  refine wpAny_Call_Name_kw (ld_glob I hg hm ?_ hdb)
  refine PySem.W.callWith_KW (h₀ := X.base) I.ok.mod.kin M.kp hall (thn (ha.run pos pins s σ H _ I h) fun us s1 ⟨vs, H1, I1, r, q⟩ => ?_) hpl he
  refine thn (hkw.run pos pins s1 σ H1 _ I1 q) fun ws s2 ⟨zs, H2, I2, rz, l1, l2, q2⟩ => ⟨I2.kIn, ?_⟩
  rw [hks]
  exact run_mkX M F (hr.low hk) (b pt hpt) tkW I2 r rz l1 l2 q2
theorem vx_makeX0 {pats : List Pat} (c : MakX X.prog X.w X.K X.mg X.base k x C sp pats) (pt : Pat) (hpt : pt ∈ pats) (hr : RoomG j X.A) (hk : k + 1 ≤ j) (tkW : Takes X W) (hg : Gl X x) (hks : pt.2.1 = [] := by rfl)
    (hdb : (x == ("__debug__" : Str)) = false := by decide) : PE X (.Call (.Name x p) [] [] pos) (tMakeX C pt.1 pt.2.1.length sp pt.2.2 W tNil tNil) := by
  obtain ⟨f, fd, ps, M, F, hm, b⟩ := c.ex
  refine ⟨fun pins s σ H Q I h => ?_⟩
  refine wpAny_Call_Name_kw (ld_glob I hg hm ?_ hdb)
  obtain ⟨l1, l2, q2⟩ := h
  have hz := run_mkX (us := []) (ws := []) M F (hr.low hk) (b pt hpt) tkW I .nil .nil l1 l2 q2
  rw [hks] at hz
  exact PySem.W.callWith_K0 I.kIn M.kp hz
/-- o.m(e, .., k = v, ..) -/
def tMethX (C : Addr) (m : Str) (n mm : Nat) (sp : Sp) (g : List V → List V → List V) (W : WX) (ta : TE) (t tk : TA) : TE := fun σ H Q => ta σ H fun x H1 => ∃ a dx fs, x = .ref a ∧ H1 a = some (.ins C dx fs) ∧ fs.lookup m = none ∧
  t σ H1 fun vs H2 => tk σ H2 fun zs H3 => (x :: vs).length = n ∧ zs.length = mm ∧ sp (g (x :: vs) zs) H3 Q (WE W σ)
theorem vx_methX {pats : List Pat} {pl : Sem Bool} (c : MetX X.prog X.w X.K X.mg X.base k C m sp pats) (pt : Pat) (hpt : pt ∈ pats) (hr : RoomG j X.A) (hk : k ≤ j) (tkW : Takes X W) (he : PE X o ta) (ha : PA X (e :: es) t) (hkw : PK X kws tk)
    (hall : (backToKw pos (keywordEach kws X.env)).all (·.1.isSome) = true := by rfl) (hks : (backToKw pos (keywordEach kws X.env)).filterMap (·.1) = pt.2.1 := by rfl)
    (hst : starEach (e :: es) X.env = (false, eval e X.env) :: starEach es X.env := by rfl) (hpl : ((backTo pos (starEach (e :: es) X.env)).any (·.1) || (backToKw pos (keywordEach kws X.env)).any (·.1.isNone)) = false := by rfl)
    (ht : eval (.Call (.Attribute o m apos) (e :: es) kws pos) X.env = (do
      let ov ← eval o X.env
      standAt apos.atName
      let (f, first) ← holding [ov] (getMethod ov m pl)
      callWith pos f first (backTo pos (starEach (e :: es) X.env)) (backToKw pos (keywordEach kws X.env))) := by rfl) :
    PE X (.Call (.Attribute o m apos) (e :: es) kws pos) (tMethX C m pt.1 pt.2.1.length sp pt.2.2 W ta t tk) := by
  obtain ⟨f, fd, ps, hc, hm, F, b⟩ := c.ex
  refine ⟨fun pins s σ H Q I h => ?_⟩
  refine PySem.W.methodCall_KW (pl := pl) (thn (he.run pins s σ H _ I h) fun u s1 ⟨x, H1, I1, rx, a, dx, fs, ex, ea, l, q⟩ => ?_) ht
  subst ex
  obtain rfl : u = Value.ref a := rx
  refine getmeth_ok I1 ea hc hm l ?_
  refine PySem.W.callWith_KW (first := [.ref a]) (h₀ := X.base) I.ok.mod.kin hm.kp hall (thn (ha.run pos pins s1 σ H1 _ I1 q) fun us s2 ⟨vs, H2, I2, r, q2⟩ => ?_) hpl hst
  refine thn (hkw.run pos pins s2 σ H2 _ I2 q2) fun ws s3 ⟨zs, H3, I3, rz, l1, l2, q3⟩ => ⟨I3.kIn, ?_⟩
  rw [hks]
  exact run_X (us := .ref a :: us) (vs := .ref a :: vs) F (hr.low hk) (b pt hpt) tkW I3 (.cons rfl r) rz l1 l2 q3
theorem vx_methX0 {pats : List Pat} {pl : Sem Bool} (c : MetX X.prog X.w X.K X.mg X.base k C m sp pats) (pt : Pat) (hpt : pt ∈ pats) (hr : RoomG j X.A) (hk : k ≤ j) (tkW : Takes X W) (he : PE X o ta) (hks : pt.2.1 = [] := by rfl)
    (ht : eval (.Call (.Attribute o m apos) [] [] pos) X.env = (do
      let ov ← eval o X.env
      standAt apos.atName
      let (f, first) ← holding [ov] (getMethod ov m pl)
      callWith pos f first (backTo pos (starEach [] X.env)) (backToKw pos (keywordEach [] X.env))) := by rfl) :
    PE X (.Call (.Attribute o m apos) [] [] pos) (tMethX C m pt.1 pt.2.1.length sp pt.2.2 W ta tNil tNil) := by
  obtain ⟨f, fd, ps, hc, hm, F, b⟩ := c.ex
  refine ⟨fun pins s σ H Q I h => ?_⟩
  refine PySem.W.methodCall_KW (pl := pl) (thn (he.run pins s σ H _ I h) fun u s1 ⟨x, H1, I1, rx, a, dx, fs, ex, ea, l, q⟩ => ?_) ht
  subst ex
  obtain rfl : u = Value.ref a := rx
  refine getmeth_ok I1 ea hc hm l ?_
  obtain ⟨l1, l2, q3⟩ := q
  have hz := run_X (us := [.ref a]) (vs := [.ref a]) (ws := []) F (hr.low hk) (b pt hpt) tkW I1 (.cons rfl .nil) .nil l1 l2 q3
  rw [hks] at hz
  exact PySem.W.callWith_K0 (first := [.ref a]) I1.kIn hm.kp hz
theorem vx_propX {pats : List Pat} (c : PropY X.prog X.w X.K X.mg X.base k C m sp pats) (hr : RoomG j X.A) (hk : k + 1 ≤ j) (he : PE X o ta) (hab : attributeBase o m X.env (eval o X.env) = eval o X.env := by rfl) : PE X (.Attribute o m pos) (tProp C sp [] E0 ta) := by
  obtain ⟨q, f, fd, ps, cls, prop, F, bind⟩ := c.ex
  constructor
  intro pins s σ H Q I h
  refine attr_of hab (thn (he.run pins s σ H _ I h) ?_)
  rintro u s1 ⟨x, H1, I1, rx, a, dx, fs, rfl, ea, prom⟩
  cases rx
  obtain ⟨mA, O, _⟩ := ins_get I1.hok ea
  obtain ⟨od, J, _⟩ := O.look
  obtain ⟨rest, rec_⟩ := prop.rec_
  have short : [Value.ref a].length = ps.length := (F.len _ _ _ _ prom).symm ▸ rfl
  have isCls : (PySem.W.clsIn X.K C).isSome = true := by
    obtain ⟨cd, e, _⟩ := PySem.W.any_some cls.hd
    rw [e]
    rfl
  refine PySem.W.get_bind I1.kIn J (PySem.W.plainGet_of (cls.get m)).1 (PySem.W.findObj_data isCls prop.at_ prop.get prop.tak) (PySem.W.plainGet_of (cls.get m)).2 (wpAny_call (PySem.W.prop_get (s := { s1 with toks := s1.toks + 1 }) I1.kIn rec_ ?_))
  have I2 := I1.tok (s1.toks + 1)
  refine codeAny_mono (F.run X.A.in1 X.stack _ H1 ⟨[.ref a], []⟩ [.ref a] [.ref a] Q E0 (hr.low hk).one I2.env0.in1 (by simpa using bind _ [.ref a] I2.kIn (by simpa using short)) (.cons rfl .nil) prom) ?_
  intro r s2 out
  cases r with
  | error er => exact (passL (X := X.nox) pins σ H1 _ er s2 (I2.wish _) out).elim
  | ok flow =>
    cases flow with
    | ret v =>
      obtain ⟨y, H2, I3, ry, qy⟩ := I2.after out
      have given := PySem.W.handedOut_of (handed_of ry)
      show wpAny _ _ (handedOut v) _ _ s2
      rw [given]
      exact wpAny_pure ⟨y, H2, I3, ry, qy⟩
    | next => exact out.elim
    | brk => exact out.elim
    | cont => exact out.elim
end
theorem Sep.news {M : List Addr} {H0 G0 G H H' : Hp} {O : List Addr} (S : Sep M H0 G0 G H O) (e : Same H H') (L : List Addr) (hL : ∀ a ∈ L, H a = none ∧ H' a ≠ none ∧ H0 a = none) : Sep M H0 G0 G H' (L ++ O) := by
  have S2 := S.same e
  refine ⟨S2.base, S2.pm, S2.sG, S2.g0, S2.gn, fun a ha => ?_⟩
  rcases List.mem_append.mp ha with h | h
  · obtain ⟨h1, h2, h3⟩ := hL a h
    exact ⟨S.gfree h1, h2, .inr h3⟩
  · exact S2.ow a h
theorem vv_chain {r r' : R2} {ta tb tc : TE} {σ : L2.St} {H : Hp} {x y z : V} {a b : Bool} (ha : Val ta σ H x) (hb : Val tb σ H y) (hc : Val tc σ H z) (h1 : ∀ Q : VK, Q (.bl a) H → r x y H Q) (h2 : ∀ Q : VK, Q (.bl b) H → r' y z H Q) :
    Val (tChain r r' ta tb tc) σ H (.bl (a && b)) := fun Q q => ha _ (hb _ (h1 _ ⟨a, rfl, by
  cases a with
  | true =>
    rw [if_pos rfl]
    exact hc _ (h2 _ q)
  | false =>
    rw [if_neg Bool.false_ne_true]
    exact q⟩))
/-! ### constants that are tuples, lists backwards, zip -/
theorem inV_ints (x : Int) : ∀ xs : List Int, inV (V.int x) (xs.map V.int) = decide (x ∈ xs)
  | [] => by simp [inV]
  | y :: r => by
    have h := inV_ints x r
    unfold inV at h ⊢
    rw [List.map_cons, List.any_cons, h]
    by_cases c : x = y
    · subst c
      simp [eqV]
    · simp [eqV, c, Ne.symm c]
theorem flat_ints : ∀ xs : List Int, (xs.map V.int).all flatV = true
  | [] => rfl
  | _ :: r => flat_ints r
def rInI (K : PySem.W.Frag) : R2 := fun x y H Q => ∃ (i : Int) (p : Addr) (xs : List Int), x = .int i ∧ y = .ref p ∧ (SqL K H p (xs.map V.int) ∨ SqT K H p (xs.map V.int)) ∧ Q (.bl (decide (i ∈ xs))) H
def rNotInI (K : PySem.W.Frag) : R2 := fun x y H Q => ∃ (i : Int) (p : Addr) (xs : List Int), x = .int i ∧ y = .ref p ∧ (SqL K H p (xs.map V.int) ∨ SqT K H p (xs.map V.int)) ∧ Q (.bl (!decide (i ∈ xs))) H
theorem op_inI {X : Cx} {K : PySem.W.Frag} (hK : X.K = K := by rfl) : OpR X (compareOp .In) (rInI K) := by
  subst hK
  intro pins s σ H x y v u Q I rx ry h
  obtain ⟨i, p, xs, rfl, rfl, hs, q⟩ := h
  refine op_in_seq pins s σ H _ _ v u Q I rx ry ⟨p, _, rfl, hs, rfl, flat_ints xs, ?_⟩
  rw [if_neg Bool.false_ne_true, inV_ints]
  exact q
theorem op_notInI {X : Cx} {K : PySem.W.Frag} (hK : X.K = K := by rfl) : OpR X (compareOp .NotIn) (rNotInI K) := by
  subst hK
  intro pins s σ H x y v u Q I rx ry h
  obtain ⟨i, p, xs, rfl, rfl, hs, q⟩ := h
  refine op_notIn_seq pins s σ H _ _ v u Q I rx ry ⟨p, _, rfl, hs, rfl, flat_ints xs, ?_⟩
  rw [if_pos rfl, inV_ints]
  exact q
theorem pe_revLK {X : Cx} {K : PySem.W.Frag} {e : Expr} {te : TE} {k : Nat} {p1 p2 p3 pos : Pos} (he : PE X e te) (hK : X.K = K := by rfl) : PE X (.Subscript e (.Slice none none (some (.UnaryOp .USub (.Constant (.int 1) k p1) p2)) p3) pos) (tRevL K te) := hK ▸ pe_revL he
theorem rev_map {α : Type} {f : α → V} {xs : List α} {H : Hp} {p : Addr} (h : H p = some (.lst (xs.map f).reverse)) : H p = some (.lst (xs.reverse.map f)) := by
  rw [List.map_reverse]
  exact h
theorem RpAll.rev {G : Hp} : ∀ {vs : List V} {ds : List PyData}, RpAll G vs ds → RpAll G vs.reverse ds.reverse
  | _, _, .nil => .nil
  | _, _, .cons h t => by
    rw [List.reverse_cons, List.reverse_cons]
    exact (RpAll.rev t).append (.one h)
theorem rev_all {α : Type} {f : α → PyData} {xs : List α} {G : Hp} {vs : List V} (a : RpAll G vs (xs.map f)) : RpAll G vs.reverse (xs.reverse.map f) := by
  rw [List.map_reverse]
  exact a.rev
theorem pi_zipK {X : Cx} {K : PySem.W.Frag} {e e2 : Expr} {ta : TA} {p pos tpos : Pos} {elts : List Expr} {kk : Nat} (hg : Gl X "zip") (hm : X.mg "zip" = none) (ha : PA X [e, e2] ta) (hK : X.K = K := by rfl)
    (hs : starEach [e, e2] X.env = (false, eval e X.env) :: starEach [e2] X.env := by rfl) (hpl : (backTo pos (starEach [e2] X.env)).any (·.1) = false := by rfl) :
    PI X (.Tuple elts kk tpos) (.Call (.Name "zip" p) [e, e2] [] pos) (RZ.iZipA K ta) := hK ▸ RZ.pi_zipA hg hm ha hs hpl
/-- a comprehension over zip of two lists of one length -/
theorem lc_zipL {K : PySem.W.Frag} {a b : Addr} {xs ys : List V} {g : TG} {tt : TT} {te : TE} {vs : List Nat} {σ : L2.St} {H1 : Hp} {D : Addr} {Qd : Hp → Prop} (hl : xs.length = ys.length) (Pv : Nat → Hp → Prop) (h0 : Pv 0 (upd H1 D (.lst []))) (hq : ∀ i H, i ≤ xs.length → Pv i H → SqL K H a xs ∧ SqL K H b ys)
    (hs : ∀ (i : Nat) (x y : V) (T : Addr) (H : Hp), xs[i]? = some x → ys[i]? = some y → H T = none → Pv i H → g (.ref T) (wipe σ vs) (upd H T (.tup [x, y])) fun σ2 H2 => wipe σ2 vs = wipe σ vs ∧ tt σ2 H2 fun b H3 =>
      if b = true then te σ2 H3 fun y H4 => ∃ acc, H4 D = some (.lst acc) ∧ acc.length < sizeLine ∧ Pv (i + 1) (upd H4 D (.lst (acc ++ [y]))) else Pv (i + 1) H3) (hd : ∀ H, Pv xs.length H → Qd H) :
    ∃ W : Nat → Nat → Hp → Prop, (∃ m, W 0 m (upd H1 D (.lst []))) ∧ ∀ i m H, W i m H →
      ((Itz K a b).stop i H ∧ Qd H) ∨ ((Itz K a b).go i H ∧ ∃ Nx : Hp → Prop, (∀ H', Nx H' → ∃ m', m' < m ∧ W (i + 1) m' H') ∧ ∀ x H', (Itz K a b).yld i H x H' → g x (wipe σ vs) H' fun σ2 H2 => wipe σ2 vs = wipe σ vs ∧ tt σ2 H2 fun b H3 =>
        if b = true then te σ2 H3 fun y H4 => ∃ acc, H4 D = some (.lst acc) ∧ acc.length < sizeLine ∧ Nx (upd H4 D (.lst (acc ++ [y]))) else Nx H3) := by
  refine ⟨fun i m H => m = xs.length - i ∧ i ≤ xs.length ∧ Pv i H, ⟨xs.length, by simp, Nat.zero_le _, h0⟩, ?_⟩
  rintro i m H ⟨rfl, hi, p⟩
  obtain ⟨qx, qy⟩ := hq i H hi p
  by_cases hlt : i < xs.length
  · have hlt2 : i < ys.length := by omega
    refine .inr ⟨⟨xs, ys, xs[i], ys[i], qx, qy, List.getElem?_eq_getElem hlt, List.getElem?_eq_getElem hlt2⟩, Pv (i + 1), fun H' p' => ⟨xs.length - (i + 1), by omega, rfl, hlt, p'⟩, fun v H' y => ?_⟩
    obtain ⟨T, x', y', rfl, hT, rfl, f1, f2⟩ := y
    exact hs i x' y' T H (f1 xs qx) (f2 ys qy) hT p
  · have e : i = xs.length := by omega
    subst e
    exact .inl ⟨⟨xs, ys, qx, qy, Or.inl (Nat.le_refl _)⟩, hd H p⟩
theorem zip_get {α β : Type} {xs : List α} {ys : List β} {i : Nat} {x : α} {y : β} (h1 : xs[i]? = some x) (h2 : ys[i]? = some y) : (xs.zip ys)[i]? = some (x, y) := by
  rw [List.getElem?_zip_eq_some]
  exact ⟨h1, h2⟩
theorem zip_len {α β : Type} {xs : List α} {ys : List β} {n : Nat} (h : xs.length = ys.length) (e : n = xs.length) : n = (xs.zip ys).length := by
  rw [List.length_zip, ← h, Nat.min_self]
  exact e
theorem zlen {α β : Type} {vs ws : List V} {xs : List α} {ys : List β} (a : vs.length = xs.length) (b : ws.length = ys.length) (h : xs.length = ys.length) : vs.length = ws.length := by rw [a, b, h]
section
variable {t : TT} {ta tb : TE} {σ : L2.St} {H : Hp}
theorem vv_ifP {p : Prop} [Decidable p] {a b : Int} (ht : Ans t σ H (decide p)) (hx : p → Val ta σ H (.int a)) (hy : ¬ p → Val tb σ H (.int b)) : Val (tIf t ta tb) σ H (.int (if p then a else b)) := by
  by_cases h : p
  · have := vv_if (p := p) (a := a) (b := a) ht (hx h) (tb := ta) (hx h)
    intro Q q
    refine ht _ ?_
    rw [decide_eq_true h, if_pos rfl]
    rw [if_pos h] at q
    exact hx h _ q
  · intro Q q
    refine ht _ ?_
    rw [decide_eq_false h, if_neg Bool.false_ne_true]
    rw [if_neg h] at q
    exact hy h _ q
theorem vv_ifQ {c : Bool} {a b : Int} (ht : Ans t σ H c) (hx : c = true → Val ta σ H (.int a)) (hy : c = false → Val tb σ H (.int b)) : Val (tIf t ta tb) σ H (.int (if c = true then a else b)) := by
  intro Q q
  refine ht _ ?_
  cases c with
  | true =>
    rw [if_pos rfl]
    rw [if_pos rfl] at q
    exact hx rfl _ q
  | false =>
    rw [if_neg Bool.false_ne_true]
    rw [if_neg Bool.false_ne_true] at q
    exact hy rfl _ q
end
theorem kit_mk0 {K : PySem.W.Frag} {S C : Addr} (h1 : (Value.ref S == Value.ref C) = false) (h2 : PySem.W.isClsIn K C = true) (h3 : PySem.W.typeIn K (.ref C) = some (.type "type")) (h4 : PySem.W.subIn K (.ref S) (.ref C) = some false) :
    PySem.W.kitOne K (.ref S) (.ref C) = some false := by
  unfold PySem.W.isClsIn at h2
  unfold PySem.W.kitOne
  rw [if_neg (by rw [h1]; exact Bool.false_ne_true)]
  unfold PySem.W.kitCls
  simp only [h2, h3, h4, beq_self_eq_true, Bool.and_self, if_true]
theorem vv_call2 {ta tb : TE} {σ : L2.St} {H : Hp} {x y z : V} {r : List V → Hp → VK → Prop} (ha : Val ta σ H x) (hb : Val tb σ H y) (hr : ∀ Q : VK, Q z H → r [x, y] H Q) : Val (tCB r (tCons ta (tCons tb tNil))) σ H z := fun Q q => ha _ (hb _ (hr Q q))
/-! ### lists of data that the caller owns; values that are a truth value or a number -/
theorem Sep.stepnew {M : List Addr} {H0 G0 G H H' : Hp} {O : List Addr} {p : Addr} {o : HO} (S : Sep M H0 G0 G H O) {G' : Hp} (e : Same H H') (eG : Same G G') (sG : Same G' H') (hn : ∀ b, H b ≠ none → G b = none → G' b = none) (_n : H p = none) (h : H' p = some o) (g : G' p = none) (hm : H0 p = none) : Sep M H0 G0 G' H' (p :: O) := by
  have S2 := S.step e eG sG hn
  refine ⟨S2.base, S2.pm, S2.sG, S2.g0, S2.gn, fun a ha => ?_⟩
  rcases List.mem_cons.mp ha with rfl | ha
  · exact ⟨g, (fun z => by rw [z] at h; cases h), .inr hm⟩
  · exact S2.ow a ha
inductive Bi where
  | b (x : Bool)
  | n (i : Int)
deriving DecidableEq
def biV : Bi → V
  | .b x => .bl x
  | .n i => .int i
def Bi.el {α : Type} (v : Bi) (f : Bool → α) (g : Int → α) : α :=
  match v with
  | .b x => f x
  | .n i => g i
theorem cW_elb {α : Type} {x : Bool} {f : Bool → Rx α} {g : Int → Rx α} {K : α → Prop} {E : Nat → Prop} (h : cW (Bi.el (.b x) f g) K E) : cW (f x) K E := h
theorem cW_eln {α : Type} {x : Int} {f : Bool → Rx α} {g : Int → Rx α} {K : α → Prop} {E : Nat → Prop} (h : cW (Bi.el (.n x) f g) K E) : cW (g x) K E := h
theorem rp_tup4 {α β γ δ : Type} {f : α → PyData} {g : β → PyData} {h : γ → PyData} {i : δ → PyData} {H : Hp} {v : V} {x : α × β × γ × δ} (r : Rp H v (encT4 f g h i x)) : ∃ a v1 v2 v3 v4, v = .ref a ∧ H a = some (.tup [v1, v2, v3, v4]) ∧ Rp H v1 (f x.1) ∧ Rp H v2 (g x.2.1) ∧ Rp H v3 (h x.2.2.1) ∧ Rp H v4 (i x.2.2.2) := by
  unfold encT4 at r
  cases r with
  | tup h1 h2 =>
    cases h2 with
    | cons a b =>
      cases b with
      | cons b c =>
        cases c with
        | cons c d =>
          cases d with
          | cons d e =>
            cases e
            exact ⟨_, _, _, _, _, rfl, h1, a, b, c, d⟩
theorem rp_mk4 {α β γ δ : Type} {f : α → PyData} {g : β → PyData} {h : γ → PyData} {i : δ → PyData} {H : Hp} {a : Addr} {v1 v2 v3 v4 : V} {x : α} {y : β} {z : γ} {w : δ} (h1 : H a = some (.tup [v1, v2, v3, v4])) (r1 : Rp H v1 (f x)) (r2 : Rp H v2 (g y)) (r3 : Rp H v3 (h z)) (r4 : Rp H v4 (i w)) : Rp H (.ref a) (encT4 f g h i (x, y, z, w)) := .tup h1 (.cons r1 (.cons r2 (.cons r3 (.cons r4 .nil))))
theorem Sep.b0M {M : List Addr} {H0 G0 G H : Hp} {O : List Addr} (S : Sep M H0 G0 G H O) (h : ∀ a ∈ M, H a = H0 a) : Same H0 H := fun b o e => by
  by_cases z : b ∈ M
  · rw [h b z]
    exact e
  · exact S.base b o e z
section
variable {X : Cx} {k j n : Nat} {f C : Addr} {fd : FuncData} {ps ks : List Str} {g : List V → List V → List V} {sp : Sp} {x m : Str} {pos p apos : Pos} {e o : Expr} {es : List Expr} {kws : List Keyword} {ta : TE} {t tk : TA} {W : WX}
/-- keywords alone -/
theorem vx_makeXK {pats : List Pat} (c : MakX X.prog X.w X.K X.mg X.base k x C sp pats) (pt : Pat) (hpt : pt ∈ pats) (hr : RoomG j X.A) (hk : k + 1 ≤ j) (tkW : Takes X W) (hg : Gl X x) (hkw : PK X kws tk)
    (hall : (backToKw pos (keywordEach kws X.env)).all (·.1.isSome) = true := by rfl) (hks : (backToKw pos (keywordEach kws X.env)).filterMap (·.1) = pt.2.1 := by rfl) (hdb : (x == ("__debug__" : Str)) = false := by decide)
    (hpl : ((backTo pos (starEach [] X.env)).any (·.1) || (backToKw pos (keywordEach kws X.env)).any (·.1.isNone)) = false := by rfl) :
    PE X (.Call (.Name x p) [] kws pos) (tMakeX C pt.1 pt.2.1.length sp pt.2.2 W tNil tk) := by
  obtain ⟨f, fd, ps, M, F, hm, b⟩ := c.ex
  refine ⟨fun pins s σ H Q I h => ?_⟩
  refine wpAny_Call_Name_kw (ld_glob I hg hm ?_ hdb)
  refine PySem.W.callWith_KW0 (h₀ := X.base) I.ok.mod.kin M.kp hall ?_ hpl
  refine thn (hkw.run pos pins s σ H _ I h) fun ws s2 ⟨zs, H2, I2, rz, l1, l2, q2⟩ => ⟨I2.kIn, ?_⟩
  rw [hks]
  exact run_mkX (us := []) (vs := []) M F (hr.low hk) (b pt hpt) tkW I2 .nil rz l1 l2 q2
theorem vx_callXK {pats : List Pat} (c : CalX X.prog X.w X.K X.mg X.base k x sp pats) (pt : Pat) (hpt : pt ∈ pats) (hr : RoomG j X.A) (hk : k ≤ j) (tkW : Takes X W) (hg : Gl X x) (hkw : PK X kws tk)
    (hall : (backToKw pos (keywordEach kws X.env)).all (·.1.isSome) = true := by rfl) (hks : (backToKw pos (keywordEach kws X.env)).filterMap (·.1) = pt.2.1 := by rfl) (hdb : (x == ("__debug__" : Str)) = false := by decide)
    (hpl : ((backTo pos (starEach [] X.env)).any (·.1) || (backToKw pos (keywordEach kws X.env)).any (·.1.isNone)) = false := by rfl) :
    PE X (.Call (.Name x p) [] kws pos) (tCallX pt.1 pt.2.1.length sp pt.2.2 W tNil tk) := by
  obtain ⟨f, fd, ps, F, hm, kp, b⟩ := c.ex
  refine ⟨fun pins s σ H Q I h => ?_⟩
  refine wpAny_Call_Name_kw (ld_glob I hg hm ?_ hdb)
  refine PySem.W.callWith_KW0 (h₀ := X.base) I.ok.mod.kin kp hall ?_ hpl
  refine thn (hkw.run pos pins s σ H _ I h) fun ws s2 ⟨zs, H2, I2, rz, l1, l2, q2⟩ => ⟨I2.kIn, ?_⟩
  rw [hks]
  exact run_X (us := []) (vs := []) F (hr.low hk) (b pt hpt) tkW I2 .nil rz l1 l2 q2
theorem vx_methXK {pats : List Pat} {pl : Sem Bool} (c : MetX X.prog X.w X.K X.mg X.base k C m sp pats) (pt : Pat) (hpt : pt ∈ pats) (hr : RoomG j X.A) (hk : k ≤ j) (tkW : Takes X W) (he : PE X o ta) (hkw : PK X kws tk)
    (hall : (backToKw pos (keywordEach kws X.env)).all (·.1.isSome) = true := by rfl) (hks : (backToKw pos (keywordEach kws X.env)).filterMap (·.1) = pt.2.1 := by rfl)
    (hpl : ((backTo pos (starEach [] X.env)).any (·.1) || (backToKw pos (keywordEach kws X.env)).any (·.1.isNone)) = false := by rfl)
    (ht : eval (.Call (.Attribute o m apos) [] kws pos) X.env = (do
      let ov ← eval o X.env
      standAt apos.atName
      let (f, first) ← holding [ov] (getMethod ov m pl)
      callWith pos f first (backTo pos (starEach [] X.env)) (backToKw pos (keywordEach kws X.env))) := by rfl) :
    PE X (.Call (.Attribute o m apos) [] kws pos) (tMethX C m pt.1 pt.2.1.length sp pt.2.2 W ta tNil tk) := by
  obtain ⟨f, fd, ps, hc, hm, F, b⟩ := c.ex
  refine ⟨fun pins s σ H Q I h => ?_⟩
  refine PySem.W.methodCall_KW (pl := pl) (thn (he.run pins s σ H _ I h) fun u s1 ⟨x, H1, I1, rx, a, dx, fs, ex, ea, l, q⟩ => ?_) ht
  subst ex
  obtain rfl : u = Value.ref a := rx
  refine getmeth_ok I1 ea hc hm l ?_
  refine PySem.W.callWith_KW0 (first := [.ref a]) (h₀ := X.base) I.ok.mod.kin hm.kp hall ?_ hpl
  refine thn (hkw.run pos pins s1 σ H1 _ I1 q) fun ws s3 ⟨zs, H3, I3, rz, l1, l2, q3⟩ => ⟨I3.kIn, ?_⟩
  rw [hks]
  exact run_X (us := [.ref a]) (vs := [.ref a]) F (hr.low hk) (b pt hpt) tkW I3 (.cons rfl .nil) rz l1 l2 q3
end
end Vx
/-! # lists within lists that are owned as a whole -/
namespace Vx
open PySem PySem.Spec PyProof.Rows L2
inductive Kd where
  | lst
  | tup
  | ins (C dx : Addr) (ns : List Str)
def Kd.ho : Kd → List V → HO
  | .lst, vs => .lst vs
  | .tup, vs => .tup vs
  | .ins C dx ns, vs => .ins C dx (ns.zip vs)
/-- what stands in the heap as a tree: values as they are, data that stay, nodes of its own -/
inductive Dt where
  | val (v : V)
  | frz (d : PyData)
  | nod (k : Kd) (xs : List Dt)
mutual
inductive Ow (G H : Hp) : List Addr → V → Dt → Prop
  | val (v : V) : Ow G H [] v (.val v)
  | frz {v : V} {d : PyData} : Rp G v d → Ow G H [] v (.frz d)
  | nod {a : Addr} {k : Kd} {vs : List V} {ds : List Dt} {L : List Addr} : H a = some (k.ho vs) → OwAll G H L vs ds → a ∉ L → Ow G H (a :: L) (.ref a) (.nod k ds)
inductive OwAll (G H : Hp) : List Addr → List V → List Dt → Prop
  | nil : OwAll G H [] [] []
  | cons {L1 L2 : List Addr} {v : V} {vs : List V} {d : Dt} {ds : List Dt} : Ow G H L1 v d → OwAll G H L2 vs ds → (∀ b ∈ L1, b ∉ L2) → OwAll G H (L1 ++ L2) (v :: vs) (d :: ds)
end
def Keeps (L : List Addr) (H H' : Hp) : Prop := ∀ b ∈ L, ∀ o, H b = some o → H' b = some o
mutual
theorem Ow.mono {G G' H H' : Hp} (e : Same G G') : ∀ {L : List Addr} {v : V} {d : Dt}, Keeps L H H' → Ow G H L v d → Ow G' H' L v d
  | _, _, _, _, .val v => .val v
  | _, _, _, _, .frz r => .frz (r.mono e)
  | _, _, _, k, .nod h r n => .nod (k _ List.mem_cons_self _ h) (OwAll.mono e (fun b hb => k b (List.mem_cons_of_mem _ hb)) r) n
theorem OwAll.mono {G G' H H' : Hp} (e : Same G G') : ∀ {L : List Addr} {vs : List V} {ds : List Dt}, Keeps L H H' → OwAll G H L vs ds → OwAll G' H' L vs ds
  | _, _, _, _, .nil => .nil
  | _, _, _, k, .cons a r d => .cons (Ow.mono e (fun b hb => k b (List.mem_append_left _ hb)) a) (OwAll.mono e (fun b hb => k b (List.mem_append_right _ hb)) r) d
end
mutual
theorem Ow.there {G H : Hp} : ∀ {L : List Addr} {v : V} {d : Dt}, Ow G H L v d → ∀ b ∈ L, H b ≠ none
  | _, _, _, .val _, _, hb => nomatch hb
  | _, _, _, .frz _, _, hb => nomatch hb
  | _, _, _, .nod h r n, b, hb => by
    rcases List.mem_cons.mp hb with rfl | hb
    · exact some_ne h
    · exact OwAll.there r b hb
theorem OwAll.there {G H : Hp} : ∀ {L : List Addr} {vs : List V} {ds : List Dt}, OwAll G H L vs ds → ∀ b ∈ L, H b ≠ none
  | _, _, _, .nil, _, hb => nomatch hb
  | _, _, _, .cons a r d, b, hb => by
    rcases List.mem_append.mp hb with hb | hb
    · exact Ow.there a b hb
    · exact OwAll.there r b hb
end
theorem OwAll.len {G H : Hp} : ∀ {L : List Addr} {vs : List V} {ds : List Dt}, OwAll G H L vs ds → vs.length = ds.length
  | _, _, _, .nil => rfl
  | _, _, _, .cons _ r _ => congrArg Nat.succ r.len
theorem OwAll.snoc {G H : Hp} {L1 : List Addr} {v : V} {d : Dt} (h : Ow G H L1 v d) : ∀ {L : List Addr} {vs : List V} {ds : List Dt}, OwAll G H L vs ds → (∀ b ∈ L, b ∉ L1) → OwAll G H (L ++ L1) (vs ++ [v]) (ds ++ [d])
  | _, _, _, .nil, _ => by
    have z : OwAll G H (L1 ++ []) [v] [d] := .cons h .nil (fun _ _ z => nomatch z)
    rw [List.append_nil] at z
    exact z
  | _, _, _, .cons (L1 := La) (L2 := Lb) a r n, k => by
    have z := OwAll.cons a (OwAll.snoc h r fun b hb => k b (List.mem_append_right _ hb)) (fun b hb q => by
      rcases List.mem_append.mp q with q | q
      · exact n b hb q
      · exact k b (List.mem_append_left _ hb) q)
    rw [← List.append_assoc] at z
    exact z
theorem OwAll.app {G H : Hp} {L2 : List Addr} {ws : List V} {es : List Dt} (h : OwAll G H L2 ws es) : ∀ {L : List Addr} {vs : List V} {ds : List Dt}, OwAll G H L vs ds → (∀ b ∈ L, b ∉ L2) → OwAll G H (L ++ L2) (vs ++ ws) (ds ++ es)
  | _, _, _, .nil, _ => h
  | _, _, _, .cons (L1 := La) (L2 := Lb) a r n, k => by
    have z := OwAll.cons a (OwAll.app h r fun b hb => k b (List.mem_append_right _ hb)) (fun b hb q => by
      rcases List.mem_append.mp q with q | q
      · exact n b hb q
      · exact k b (List.mem_append_left _ hb) q)
    rw [← List.append_assoc] at z
    exact z
/-! ### trees that are data -/
mutual
inductive Dd : Dt → PyData → Prop
  | non : Dd (.val .non) .none
  | bl (b : Bool) : Dd (.val (.bl b)) (.bool b)
  | int (i : Int) : Dd (.val (.int i)) (.int i)
  | str (x : Str) : Dd (.val (.str x)) (.str x)
  | frz (d : PyData) : Dd (.frz d) d
  | lst {xs : List Dt} {ds : List PyData} : DdAll xs ds → Dd (.nod .lst xs) (.list ds)
  | tup {xs : List Dt} {ds : List PyData} : DdAll xs ds → Dd (.nod .tup xs) (.tuple ds)
inductive DdAll : List Dt → List PyData → Prop
  | nil : DdAll [] []
  | cons {x : Dt} {xs : List Dt} {d : PyData} {ds : List PyData} : Dd x d → DdAll xs ds → DdAll (x :: xs) (d :: ds)
end
mutual
/-- read in any heap that holds its nodes -/
theorem Ow.rp {G H I : Hp} (e : Same G I) : ∀ {L : List Addr} {v : V} {d : Dt} {p : PyData}, Keeps L H I → Ow G H L v d → Dd d p → Rp I v p
  | _, _, _, _, _, .val _, .non => .non
  | _, _, _, _, _, .val _, .bl b => .bl b
  | _, _, _, _, _, .val _, .int i => .int i
  | _, _, _, _, _, .val _, .str x => .str x
  | _, _, _, _, _, .frz r, .frz _ => r.mono e
  | _, _, _, _, k, .nod h r _, .lst q => .lst (k _ List.mem_cons_self _ h) (OwAll.rp e (fun b hb => k b (List.mem_cons_of_mem _ hb)) r q)
  | _, _, _, _, k, .nod h r _, .tup q => .tup (k _ List.mem_cons_self _ h) (OwAll.rp e (fun b hb => k b (List.mem_cons_of_mem _ hb)) r q)
theorem OwAll.rp {G H I : Hp} (e : Same G I) : ∀ {L : List Addr} {vs : List V} {ds : List Dt} {ps : List PyData}, Keeps L H I → OwAll G H L vs ds → DdAll ds ps → RpAll I vs ps
  | _, _, _, _, _, .nil, .nil => .nil
  | _, _, _, _, k, .cons a r _, .cons x xs => .cons (Ow.rp e (fun b hb => k b (List.mem_append_left _ hb)) a x) (OwAll.rp e (fun b hb => k b (List.mem_append_right _ hb)) r xs)
end
def oI (i : Int) : Dt := .val (.int i)
def oB (b : Bool) : Dt := .val (.bl b)
def oF {α : Type} (f : α → PyData) (x : α) : Dt := .frz (f x)
def oL {α : Type} (f : α → Dt) (xs : List α) : Dt := .nod .lst (xs.map f)
def EncO {α : Type} (f : α → Dt) (g : α → PyData) : Prop := ∀ x, Dd (f x) (g x)
theorem encO_I : EncO oI PyData.int := fun i => .int i
theorem encO_B : EncO oB PyData.bool := fun i => .bl i
theorem encO_F {α : Type} {f : α → PyData} : EncO (oF f) f := fun _ => .frz _
theorem EncO.all {α : Type} {f : α → Dt} {g : α → PyData} (h : EncO f g) : ∀ xs : List α, DdAll (xs.map f) (xs.map g)
  | [] => .nil
  | x :: xs => .cons (h x) (EncO.all h xs)
theorem encO_L {α : Type} {f : α → Dt} {g : α → PyData} (h : EncO f g) : EncO (oL f) (encL g) := fun xs => .lst (h.all xs)
theorem keeps_same {L : List Addr} {H H' : Hp} (e : Same H H') : Keeps L H H' := fun b _ o q => e b o q
theorem keeps_refl {L : List Addr} {H : Hp} : Keeps L H H := fun _ _ _ q => q
theorem keeps_mut {L : List Addr} {H H' : Hp} {m : Addr} (x : SameX m H H') (n : ∀ b ∈ L, b ≠ m) : Keeps L H H' := fun b hb o q => x b o q (n b hb)
theorem keeps_muts {L M : List Addr} {H H' : Hp} (x : SameXs M H H') (n : ∀ b ∈ L, b ∉ M) : Keeps L H H' := fun b hb o q => x b o q (n b hb)
theorem keeps_hide {L M : List Addr} {H : Hp} (n : ∀ b ∈ L, b ∉ M) : Keeps L H (hideL M H) := fun b hb o q => by
  rw [hideL_out (n b hb)]
  exact q
section
variable {α : Type} {f : α → Dt} {g : α → PyData} {G H I : Hp} {L : List Addr} {vs : List V} {xs : List α}
theorem OwAll.rpA (w : OwAll G H L vs (xs.map f)) (h : EncO f g) (e : Same G H) : RpAll H vs (xs.map g) := OwAll.rp e keeps_refl w (h.all xs)
theorem OwAll.rpH (w : OwAll G H L vs (xs.map f)) (h : EncO f g) (e : Same G I) (k : Keeps L H I) : RpAll I vs (xs.map g) := OwAll.rp e k w (h.all xs)
theorem OwAll.lenM (w : OwAll G H L vs (xs.map f)) : vs.length = xs.length := by rw [w.len, List.length_map]
theorem OwAll.snocM {L1 : List Addr} {v : V} {y : α} (w : OwAll G H L vs (xs.map f)) (h : Ow G H L1 v (f y)) (n : ∀ b ∈ L, b ∉ L1) : OwAll G H (L ++ L1) (vs ++ [v]) ((xs ++ [y]).map f) := by
  rw [List.map_append]
  exact OwAll.snoc h w n
theorem Ow.ints {a : Addr} {ys : List Int} (h : H a = some (.lst (ys.map V.int))) : Ow G H [a] (.ref a) (oL oI ys) := by
  have z : ∀ ys : List Int, OwAll G H [] (ys.map V.int) (ys.map oI) := fun ys => by
    induction ys with
    | nil => exact .nil
    | cons y r ih => exact .cons (L1 := []) (L2 := []) (.val _) ih (fun _ z => nomatch z)
  exact .nod (k := .lst) h (z ys) (fun z => nomatch z)
theorem Ow.list {a : Addr} {xs : List α} {L : List Addr} {vs : List V} (h : H a = some (.lst vs)) (w : OwAll G H L vs (xs.map f)) (n : ∀ b ∈ L, b ≠ a) : Ow G H (a :: L) (.ref a) (oL f xs) := .nod (k := .lst) h w (fun z => n a z rfl)
theorem Ow.toList {v : V} {L : List Addr} {xs : List α} (w : Ow G H L v (oL f xs)) : ∃ a vs L', v = .ref a ∧ L = a :: L' ∧ H a = some (.lst vs) ∧ OwAll G H L' vs (xs.map f) ∧ ∀ b ∈ L', b ≠ a := by
  unfold oL at w
  cases w with
  | nod h r n => exact ⟨_, _, _, rfl, rfl, h, r, fun b hb z => n (z ▸ hb)⟩
theorem OwAll.toInts : ∀ {L : List Addr} {vs : List V} {xs : List Int}, OwAll G H L vs (xs.map oI) → L = [] ∧ vs = xs.map V.int
  | _, _, [], .nil => ⟨rfl, rfl⟩
  | _, _, x :: xs, .cons a r _ => by
    obtain ⟨h1, h2⟩ := OwAll.toInts r
    cases a
    exact ⟨by rw [h1] <;> rfl, by rw [h2] <;> rfl⟩
theorem Ow.toInts {v : V} {L : List Addr} {xs : List Int} (w : Ow G H L v (oL oI xs)) : ∃ a, v = .ref a ∧ L = [a] ∧ H a = some (.lst (xs.map V.int)) := by
  obtain ⟨a, vs, L', rfl, rfl, h, r, _⟩ := w.toList
  obtain ⟨rfl, rfl⟩ := r.toInts
  exact ⟨a, rfl, rfl, h⟩
/-- the part at a place, and how a change of it alone changes the whole -/
theorem OwAll.part : ∀ {L : List Addr} {vs : List V} {ds : List Dt} {i : Nat} {d : Dt}, OwAll G H L vs ds → ds[i]? = some d → ∃ v L1, vs[i]? = some v ∧ Ow G H L1 v d ∧ (∀ b ∈ L1, b ∈ L) ∧
    ∀ H' d', (∀ b ∈ L, b ∉ L1 → ∀ o, H b = some o → H' b = some o) → Ow G H' L1 v d' → OwAll G H' L vs (ds.set i d')
  | _, _, _, _, _, .nil, h => by simp at h
  | _, _, _, 0, _, .cons (L1 := La) (L2 := Lb) a r n, h => by
    simp at h
    subst h
    refine ⟨_, La, rfl, a, fun b hb => List.mem_append_left _ hb, fun H' d' k w => ?_⟩
    exact .cons w (OwAll.mono (Same.refl G) (fun b hb => k b (List.mem_append_right _ hb) fun z => n b z hb) r) n
  | _, _, _, i + 1, _, .cons (L1 := La) (L2 := Lb) a r n, h => by
    obtain ⟨v, L1, h1, h2, h3, h4⟩ := OwAll.part (i := i) r (by simpa using h)
    refine ⟨v, L1, by simpa using h1, h2, fun b hb => List.mem_append_right _ (h3 b hb), fun H' d' k w => ?_⟩
    refine .cons (Ow.mono (Same.refl G) (fun b hb => k b (List.mem_append_left _ hb) fun z => n b hb (h3 b z)) a) (h4 H' d' (fun b hb nb => k b (List.mem_append_right _ hb) nb) w) n
/-- the same, where the part grows: its new footprint is the old one and what is new -/
theorem OwAll.part2 : ∀ {L : List Addr} {vs : List V} {ds : List Dt} {i : Nat} {d : Dt}, OwAll G H L vs ds → ds[i]? = some d → ∃ v L1, vs[i]? = some v ∧ Ow G H L1 v d ∧ (∀ b ∈ L1, b ∈ L) ∧
    (∀ H' d', (∀ b ∈ L, b ∉ L1 → ∀ o, H b = some o → H' b = some o) → Ow G H' L1 v d' → OwAll G H' L vs (ds.set i d')) ∧
    ∀ H' d' Fv L1', (∀ b ∈ L, b ∉ L1 → ∀ o, H b = some o → H' b = some o) → (∀ b ∈ L1', b ∈ L1 ++ Fv) → (∀ b ∈ Fv, b ∉ L) → Ow G H' L1' v d' → ∃ L', (∀ b ∈ L', b ∈ L ++ Fv) ∧ OwAll G H' L' vs (ds.set i d')
  | _, _, _, _, _, .nil, h => by simp at h
  | _, _, _, 0, _, .cons (L1 := La) (L2 := Lb) a r n, h => by
    simp at h
    subst h
    refine ⟨_, La, rfl, a, fun b hb => List.mem_append_left _ hb, fun H' d' k w => ?_, fun H' d' Fv L1' k s nf w => ⟨L1' ++ Lb, fun b hb => ?_, ?_⟩⟩
    · exact .cons w (OwAll.mono (Same.refl G) (fun b hb => k b (List.mem_append_right _ hb) fun z => n b z hb) r) n
    · rcases List.mem_append.mp hb with hb | hb
      · rcases List.mem_append.mp (s b hb) with q | q
        · exact List.mem_append_left _ (List.mem_append_left _ q)
        · exact List.mem_append_right _ q
      · exact List.mem_append_left _ (List.mem_append_right _ hb)
    · refine .cons w (OwAll.mono (Same.refl G) (fun b hb => k b (List.mem_append_right _ hb) fun z => n b z hb) r) fun b hb q => ?_
      rcases List.mem_append.mp (s b hb) with z | z
      · exact n b z q
      · exact nf b z (List.mem_append_right _ q)
  | _, _, _, i + 1, _, .cons (L1 := La) (L2 := Lb) a r n, h => by
    obtain ⟨v, L1, h1, h2, h3, h4, h5⟩ := OwAll.part2 (i := i) r (by simpa using h)
    refine ⟨v, L1, by simpa using h1, h2, fun b hb => List.mem_append_right _ (h3 b hb), fun H' d' k w => ?_, fun H' d' Fv L1' k s nf w => ?_⟩
    · refine .cons (Ow.mono (Same.refl G) (fun b hb => k b (List.mem_append_left _ hb) fun z => n b hb (h3 b z)) a) (h4 H' d' (fun b hb nb => k b (List.mem_append_right _ hb) nb) w) n
    · obtain ⟨L', s2, z⟩ := h5 H' d' Fv L1' (fun b hb nb => k b (List.mem_append_right _ hb) nb) s (fun b hb q => nf b hb (List.mem_append_right _ q)) w
      refine ⟨La ++ L', fun b hb => ?_, .cons (Ow.mono (Same.refl G) (fun b hb => k b (List.mem_append_left _ hb) fun z => n b hb (h3 b z)) a) z fun b hb q => ?_⟩
      · rcases List.mem_append.mp hb with hb | hb
        · exact List.mem_append_left _ (List.mem_append_left _ hb)
        · rcases List.mem_append.mp (s2 b hb) with q | q
          · exact List.mem_append_left _ (List.mem_append_right _ q)
          · exact List.mem_append_right _ q
      · rcases List.mem_append.mp (s2 b q) with y | y
        · exact n b hb y
        · exact nf b y (List.mem_append_left _ hb)
theorem OwAll.partM [Inhabited α] {k : Int} (w : OwAll G H L vs (xs.map f)) (h : -(xs.length : Int) ≤ k ∧ k < xs.length) : ∃ v L1, atI vs k = some v ∧ Ow G H L1 v (f (itD xs k)) ∧ (∀ b ∈ L1, b ∈ L) ∧
    (∀ H' y, (∀ b ∈ L, b ∉ L1 → ∀ o, H b = some o → H' b = some o) → Ow G H' L1 v (f y) → OwAll G H' L vs ((setL xs k y).map f)) ∧
    ∀ H' y Fv L1', (∀ b ∈ L, b ∉ L1 → ∀ o, H b = some o → H' b = some o) → (∀ b ∈ L1', b ∈ L1 ++ Fv) → (∀ b ∈ Fv, b ∉ L) → Ow G H' L1' v (f y) → ∃ L', (∀ b ∈ L', b ∈ L ++ Fv) ∧ OwAll G H' L' vs ((setL xs k y).map f) := by
  obtain ⟨j, e, hj⟩ := ixN_some h
  have hx := List.getElem?_eq_getElem hj
  obtain ⟨v, L1, h1, h2, h3, h4, h5⟩ := OwAll.part2 (i := j) (d := f xs[j]) w (by rw [List.getElem?_map, hx] <;> rfl)
  have ei : itD xs k = xs[j] := by
    unfold itD atI
    rw [e]
    show (xs[j]?).getD default = _
    rw [hx] <;> rfl
  refine ⟨v, L1, ?_, by rw [ei]; exact h2, h3, fun H' y q w2 => ?_, fun H' y Fv L1' q s nf w2 => ?_⟩
  · unfold atI
    rw [w.lenM, e]
    exact h1
  · have z := h4 H' (f y) q w2
    unfold setL
    rw [e, List.map_set]
    exact z
  · obtain ⟨L', s2, z⟩ := h5 H' (f y) Fv L1' q s nf w2
    refine ⟨L', s2, ?_⟩
    unfold setL
    rw [e, List.map_set]
    exact z
theorem grow_keeps {L L1 : List Addr} {m : Addr} {H H1 H2 : Hp} (e : Same H H1) (x : SameX m H1 H2) (hm : m ∈ L1) : ∀ b ∈ L, b ∉ L1 → ∀ o, H b = some o → H2 b = some o := fun b _ n o q => x b o (e b o q) (fun z => n (z ▸ hm))
theorem grow_sub {a : Addr} {L' Lr Fv : List Addr} (h : ∀ b ∈ L', b ∈ Lr ++ Fv) : ∀ b ∈ a :: L', b ∈ (a :: Lr) ++ Fv := fun b hb => by
  rcases List.mem_cons.mp hb with rfl | hb
  · exact List.mem_cons_self
  · exact List.mem_cons_of_mem _ (h b hb)
/-- the item of a turn -/
theorem OwAll.turn {i : Nat} {v : V} (w : OwAll G H L vs (xs.map f)) (h : vs[i]? = some v) : ∃ x L1, xs[i]? = some x ∧ Ow G H L1 v (f x) ∧ ∀ b ∈ L1, b ∈ L := by
  have hl := get_len h
  have e := w.lenM
  have hx := List.getElem?_eq_getElem (show i < xs.length by omega)
  obtain ⟨v2, L1, h1, h2, h3, _⟩ := OwAll.part (i := i) (d := f xs[i]) w (by rw [List.getElem?_map, hx] <;> rfl)
  rw [h] at h1
  cases h1
  exact ⟨_, L1, hx, h2, h3⟩
end
/-! ### what is owned, in pieces -/
theorem all_app {P : Addr → Prop} {L l : List Addr} (h : ∀ x ∈ L, P x) (t : ∀ x ∈ l, P x) : ∀ x ∈ L ++ l, P x := fun x hx => by
  rcases List.mem_append.mp hx with q | q
  · exact h x q
  · exact t x q
theorem nm_nil {a : Addr} : a ∉ ([] : List Addr) := fun z => nomatch z
theorem nm_cons {a m : Addr} {l : List Addr} (h : a ≠ m) (t : a ∉ l) : a ∉ m :: l := fun z => by
  rcases List.mem_cons.mp z with q | q
  · exact h q
  · exact t q
theorem nm_app {a : Addr} {L l : List Addr} (h : a ∉ L) (t : a ∉ l) : a ∉ L ++ l := fun z => by
  rcases List.mem_append.mp z with q | q
  · exact h q
  · exact t q
theorem there_ne {H : Hp} {L : List Addr} {x : Addr} (t : ∀ b ∈ L, H b ≠ none) (n : H x = none) : ∀ b ∈ L, b ≠ x := fun b hb z => t b hb (z ▸ n)
theorem new_ne {H : Hp} {L : List Addr} {x : Addr} {o : HO} (n : ∀ b ∈ L, H b = none) (h : H x = some o) : ∀ b ∈ L, b ≠ x := fun b hb z => by
  have := n b hb
  rw [z, h] at this
  cases this
theorem new_nl {H : Hp} {L L2 : List Addr} (n : ∀ b ∈ L, H b = none) (t : ∀ b ∈ L2, H b ≠ none) : ∀ b ∈ L, b ∉ L2 := fun b hb z => t b z (n b hb)
theorem nl_symm {L L2 : List Addr} (h : ∀ b ∈ L, b ∉ L2) : ∀ b ∈ L2, b ∉ L := fun b hb z => h b z hb
theorem none_of_same {H H' : Hp} {x : Addr} (e : Same H H') (n : H' x = none) : H x = none := by
  cases q : H x with
  | none => rfl
  | some o =>
    rw [e x o q] at n
    cases n
section
variable {M : List Addr} {H0 G0 G H H' : Hp} {O L : List Addr} {p m : Addr} {o : HO}
theorem Sep.h0 (S : Sep M H0 G0 G H O) {b : Addr} (hb : b ∈ O) (hM : b ∉ M) : H0 b = none := (S.ow b hb).2.2.elim (fun z => (hM z).elim) id
theorem g_nl {a : Addr} {o : HO} (h : G a = some o) (S : Sep M H0 G0 G H O) (hL : ∀ b ∈ L, b ∈ O) : ∀ b ∈ L, b ≠ a := fun b hb => (g_ne h S (hL b hb)).symm
theorem b_nl {a : Addr} {o : HO} (h : (hideL M H0) a = some o) (S : Sep M H0 G0 G H O) (hL : ∀ b ∈ L, b ∈ O) : ∀ b ∈ L, b ≠ a := fun b hb => (b_ne h S (hL b hb)).symm
/-- a whole tree that is to stay as it is -/
theorem Sep.freezeL (S : Sep M H0 G0 G H O) {O' : List Addr} (hL : ∀ b ∈ L, b ∈ O) (h0 : ∀ b ∈ L, H0 b = none) (hO : ∀ b ∈ O', b ∈ O ∧ b ∉ L) : ∃ G', Same G G' ∧ Keeps L H G' ∧ Sep M H0 G0 G' H O' := by
  have gn : ∀ b ∈ L, G b = none := fun b hb => (S.ow b (hL b hb)).1
  refine ⟨fun b => if b ∈ L then H b else G b, fun b u q => ?_, fun b hb u q => ?_, S.base, S.pm, fun b u q => ?_, fun b u q => ?_, fun b hb gb => ?_, fun a ha => ?_⟩
  · have n : b ∉ L := fun z => by
      rw [gn b z] at q
      cases q
    show (if b ∈ L then H b else G b) = _
    rw [if_neg n]
    exact q
  · show (if b ∈ L then H b else G b) = _
    rw [if_pos hb]
    exact q
  · by_cases z : b ∈ L
    · exact (if_pos z).symm.trans q
    · exact S.sG b u ((if_neg z).symm.trans q)
  · have z : b ∉ L := fun z => by
      have := S.g0 b u q
      rw [gn b z] at this
      cases this
    show (if b ∈ L then H b else G b) = _
    rw [if_neg z]
    exact S.g0 b u q
  · have z : b ∉ L := fun z => hb (h0 b z)
    show (if b ∈ L then H b else G b) = _
    rw [if_neg z]
    exact S.gn b hb gb
  · obtain ⟨h1, h2⟩ := hO a ha
    refine ⟨?_, (S.ow a h1).2⟩
    show (if a ∈ L then H a else G a) = _
    rw [if_neg h2]
    exact (S.ow a h1).1
/-- a callee hands over a list of lists of its own making -/
theorem Sep.steptree (S : Sep M H0 G0 G H O) {G' : Hp} (e : Same H H') (eG : Same G G') (sG : Same G' H') (hn : ∀ b, H b ≠ none → G b = none → G' b = none) (L : List Addr) (hL : ∀ b ∈ L, H b = none ∧ G' b = none ∧ H' b ≠ none) : Sep M H0 G0 G' H' (L ++ O) := by
  have S2 := S.step e eG sG hn
  refine ⟨S2.base, S2.pm, S2.sG, S2.g0, S2.gn, all_app (fun b hb => ⟨(hL b hb).2.1, (hL b hb).2.2, .inr (S.free (hL b hb).1)⟩) S2.ow⟩
end
theorem Rp.list_of {α : Type} {g : α → PyData} {H : Hp} {a : Addr} {vs : List V} {xs : List α} (h : H a = some (.lst vs)) (r : RpAll H vs (xs.map g)) : Rp H (.ref a) (encL g xs) := .lst h r
/-! ### repr of data -/
mutual
def nodes : PyData → Nat
  | .list xs => 1 + nodesAll xs
  | .tuple xs => 1 + nodesAll xs
  | _ => 1
def nodesAll : List PyData → Nat
  | [] => 0
  | x :: xs => nodes x + nodesAll xs
end
mutual
def smallD : PyData → Bool
  | .none => true
  | .bool _ => true
  | .int i => decide (i.natAbs < 10 ^ 19)
  | .str x => decide ((reprText x).length ≤ 20)
  | .list xs => smallAll xs
  | .tuple xs => smallAll xs
  | _ => false
def smallAll : List PyData → Bool
  | [] => true
  | x :: xs => smallD x && smallAll xs
end
theorem piled_list (ts : List Str) : (listText ts).length ≤ piled ts + 2 := by
  cases ts with
  | nil => exact Nat.le_refl 2
  | cons t r =>
    have e : (listText (t :: r)).length = (textFrom 1 ("[" ++ ("" : String) ++ t) r).length + 1 := by
      show (textFrom 0 "[" (t :: r) ++ "]").length = _
      rw [strLen_append]
      rfl
    rw [e, textFrom_length_pos r 1 _ (by decide), piled_cons, strLen_append, strLen_append]
    have h1 : (("[" : String) : Str).length = 1 := rfl
    have h2 : (("" : String) : Str).length = 0 := rfl
    omega
theorem piled_tup (ts : List Str) : (tupleText ts).length ≤ piled ts + 3 := by
  unfold tupleText
  rw [strLen_append, strLen_append]
  have h1 : (("(" : String) : Str).length = 1 := rfl
  have h2 : (((if ts.length == 1 then ",)" else ")" : String) : Str)).length ≤ 2 := by split <;> decide
  by_cases h : ts = []
  · subst h
    exact Nat.le_of_lt (by decide)
  · have := join_length_add ts h
    omega
mutual
theorem small_shown : ∀ d : PyData, smallD d = true → d.shown.length + 4 ≤ 26 * nodes d ∧ d.showable = true ∧ d.hasDict = false
  | .none, _ => ⟨by simp only [PyData.shown, nodes]; decide, by simp [PyData.showable], by simp [PyData.hasDict]⟩
  | .bool b, _ => ⟨by cases b <;> simp only [PyData.shown, nodes] <;> decide, by simp [PyData.showable], by simp [PyData.hasDict]⟩
  | .int i, h => by
    have h : i.natAbs < 10 ^ 19 := by simpa [smallD] using h
    refine ⟨?_, ?_, by simp [PyData.hasDict]⟩
    · have := int_text_length_le10 (k := 19) (by decide) h
      simp only [PyData.shown, nodes]
      rw [PySem.ofString_length]
      omega
    · simp only [PyData.showable, decide_eq_true_eq]
      have : i.natAbs < 2 ^ 64 := by omega
      rcases Nat.eq_zero_or_pos i.natAbs with z | z
      · rw [z]
        decide
      · have := (Nat.log2_lt (by omega)).mpr this
        omega
  | .str x, h => by
    have h : (reprText x).length ≤ 20 := by simpa [smallD] using h
    refine ⟨by simp only [PyData.shown, nodes]; omega, by simp [PyData.showable], by simp [PyData.hasDict]⟩
  | .list xs, h => by
    obtain ⟨h1, h2, h3⟩ := small_shownAll xs (by simpa [smallD] using h)
    refine ⟨?_, by simpa [PyData.showable] using h2, by simpa [PyData.hasDict] using h3⟩
    have := piled_list (PyData.shownAll xs)
    simp only [PyData.shown, nodes]
    omega
  | .tuple xs, h => by
    obtain ⟨h1, h2, h3⟩ := small_shownAll xs (by simpa [smallD] using h)
    refine ⟨?_, by simpa [PyData.showable] using h2, by simpa [PyData.hasDict] using h3⟩
    have := piled_tup (PyData.shownAll xs)
    simp only [PyData.shown, nodes]
    omega
  | .dict kvs, h => by simp [smallD] at h
theorem small_shownAll : ∀ ds : List PyData, smallAll ds = true → piled (PyData.shownAll ds) ≤ 26 * nodesAll ds ∧ PyData.showableAll ds = true ∧ PyData.hasDictAll ds = false
  | [], _ => ⟨by simp [PyData.shownAll, nodesAll, piled], by simp [PyData.showableAll], by simp [PyData.hasDictAll]⟩
  | d :: ds, h => by
    have h : smallD d = true ∧ smallAll ds = true := by simpa [smallAll] using h
    obtain ⟨a1, a2, a3⟩ := small_shown d h.1
    obtain ⟨b1, b2, b3⟩ := small_shownAll ds h.2
    refine ⟨?_, by simp [PyData.showableAll, a2, b2], by simp [PyData.hasDictAll, a3, b3]⟩
    simp only [PyData.shownAll, nodesAll, piled_cons]
    omega
end
/-- data that repr may show -/
def ShowOk (d : PyData) : Prop := smallD d = true ∧ nodes d ≤ 600000 ∧ d.depth ≤ 60
instance (d : PyData) : Decidable (ShowOk d) := by unfold ShowOk; infer_instance
def rRepr : List V → Hp → VK → Prop := fun xs H Q => ∃ (a : Addr) (d : PyData), xs = [.ref a] ∧ Rp H (.ref a) d ∧ ShowOk d ∧ Q (.str d.shown) H
theorem call_reprD {X : Cx} (hg : X.A.guards = some []) (hu : X.A.units + 64 < cLine) : CallR X (.builtin "repr") rRepr := by
  intro pins s σ H xs us Q I r h
  obtain ⟨a, d, rfl, rp, ⟨ok, nd, dp⟩, q⟩ := h
  obtain ⟨h1, h2, h3⟩ := small_shown d ok
  cases r with
  | cons ra rn =>
    cases rn
    cases ra
    obtain ⟨as, reads⟩ := Dp.reads I d _ _ rp.dp rfl
    refine repr_of_reads' reads h2 (PyData.noDict_hsm h3) hg (by omega) (fun _ _ e => e) (fun h' u tk k => ⟨.str d.shown, H, I.kept k, ⟨u, rfl⟩, q⟩) ?_
    show d.shown.length ≤ 2 ^ 24
    omega
/-- small data: nodes, depth -/
def Sm (n k : Nat) (d : PyData) : Prop := smallD d = true ∧ nodes d ≤ n ∧ d.depth ≤ k
theorem Sm.imp {n k n' k' : Nat} {d : PyData} (h : Sm n k d) (a : n ≤ n') (b : k ≤ k') : Sm n' k' d := ⟨h.1, Nat.le_trans h.2.1 a, Nat.le_trans h.2.2 b⟩
theorem Sm.show {n k : Nat} {d : PyData} (h : Sm n k d) (a : n ≤ 600000 := by decide) (b : k ≤ 60 := by decide) : ShowOk d := h.imp a b
theorem sm_non : Sm 1 0 .none := ⟨by simp [smallD], by simp [nodes], by simp [PyData.depth]⟩
theorem sm_bool (b : Bool) : Sm 1 0 (.bool b) := ⟨by simp [smallD], by simp [nodes], by simp [PyData.depth]⟩
theorem sm_int {i : Int} (h : -10000000000000000000 < i ∧ i < 10000000000000000000) : Sm 1 0 (.int i) := ⟨by simp only [smallD, decide_eq_true_eq]; omega, by simp [nodes], by simp [PyData.depth]⟩
theorem sm_all {α : Type} {f : α → PyData} {n k : Nat} : ∀ {xs : List α}, (∀ x ∈ xs, Sm n k (f x)) → smallAll (xs.map f) = true ∧ nodesAll (xs.map f) ≤ xs.length * n ∧ PyData.depthAll (xs.map f) ≤ k
  | [], _ => ⟨by simp [smallAll], by simp [nodesAll], by simp [PyData.depthAll]⟩
  | x :: xs, h => by
    obtain ⟨a1, a2, a3⟩ := h x List.mem_cons_self
    obtain ⟨b1, b2, b3⟩ := sm_all fun y hy => h y (List.mem_cons_of_mem _ hy)
    refine ⟨by simp [smallAll, a1, b1], ?_, ?_⟩
    · simp only [List.map_cons, nodesAll, List.length_cons, Nat.succ_mul]
      omega
    · simp only [List.map_cons, PyData.depthAll]
      omega
theorem sm_L {α : Type} {f : α → PyData} {n k m : Nat} {xs : List α} (h : ∀ x ∈ xs, Sm n k (f x)) (hm : xs.length ≤ m) : Sm (1 + m * n) (k + 1) (encL f xs) := by
  obtain ⟨a1, a2, a3⟩ := sm_all h
  refine ⟨by simp [encL, smallD, a1], ?_, ?_⟩
  · have := Nat.mul_le_mul_right n hm
    simp only [encL, nodes]
    omega
  · simp only [encL, PyData.depth]
    omega
theorem sm_ints {xs : List Int} {m : Nat} (h : ∀ x ∈ xs, -10000000000000000000 < x ∧ x < 10000000000000000000) (hm : xs.length ≤ m) : Sm (1 + m * 1) 1 (encL PyData.int xs) := sm_L (fun x hx => sm_int (h x hx)) hm
theorem sm_T2 {α β : Type} {f : α → PyData} {g : β → PyData} {n k m j : Nat} {p : α × β} (h1 : Sm n k (f p.1)) (h2 : Sm m j (g p.2)) : Sm (1 + n + m) (max k j + 1) (encT2 f g p) := by
  obtain ⟨a1, a2, a3⟩ := h1
  obtain ⟨b1, b2, b3⟩ := h2
  refine ⟨by simp [encT2, smallD, smallAll, a1, b1], ?_, ?_⟩
  · simp only [encT2, nodes, nodesAll]
    omega
  · simp only [encT2, PyData.depth, PyData.depthAll]
    omega
theorem sm_T3 {α β γ : Type} {f : α → PyData} {g : β → PyData} {h : γ → PyData} {n k m j l i : Nat} {p : α × β × γ} (h1 : Sm n k (f p.1)) (h2 : Sm m j (g p.2.1)) (h3 : Sm l i (h p.2.2)) : Sm (1 + n + m + l) (max k (max j i) + 1) (encT3 f g h p) := by
  obtain ⟨a1, a2, a3⟩ := h1
  obtain ⟨b1, b2, b3⟩ := h2
  obtain ⟨c1, c2, c3⟩ := h3
  refine ⟨by simp [encT3, smallD, smallAll, a1, b1, c1], ?_, ?_⟩
  · simp only [encT3, nodes, nodesAll]
    omega
  · simp only [encT3, PyData.depth, PyData.depthAll]
    omega
end Vx
namespace Vx
open PySem PySem.Spec PyProof.Rows L2
theorem new_ne2 {H : Hp} {L : List Addr} {x : Addr} (n : ∀ b ∈ L, H b = none) (h : H x ≠ none) : ∀ b ∈ L, b ≠ x := fun b hb z => h (z ▸ n b hb)
theorem upd_tree {α : Type} {f : α → Dt} {G H H' : Hp} {L L1 : List Addr} {vs : List V} {xs : List α} {k : Int} {v : V} {m : Addr} {y : α} (up : ∀ H' y, (∀ b ∈ L, b ∉ L1 → ∀ o, H b = some o → H' b = some o) → Ow G H' L1 v (f y) → OwAll G H' L vs ((setL xs k y).map f)) (x : SameX m H H') (hm : m ∈ L1) (w : Ow G H' L1 v (f y)) :
    OwAll G H' L vs ((setL xs k y).map f) := up H' y (fun c _ n o q => x c o q (fun z => n (z ▸ hm))) w
theorem Ow.toFrz {α : Type} {f : α → PyData} {G H : Hp} {L : List Addr} {v : V} {x : α} (w : Ow G H L v (oF f x)) : L = [] ∧ Rp G v (f x) := by
  unfold oF at w
  cases w with
  | frz r => exact ⟨rfl, r⟩
section
variable {α : Type} {f : α → Dt} {G H : Hp} {L : List Addr} {vs : List V} {xs : List α}
theorem OwAll.pin {i : Nat} {v : V} {x : α} (w : OwAll G H L vs (xs.map f)) (h : vs[i]? = some v) (hx : xs[i]? = some x) : ∃ L1, Ow G H L1 v (f x) ∧ ∀ b ∈ L1, b ∈ L := by
  obtain ⟨y, L1, h1, h2, h3⟩ := OwAll.turn w h
  rw [hx] at h1
  cases h1
  exact ⟨L1, h2, h3⟩
theorem OwAll.pinInts {i : Nat} {b : Addr} {xs : List (List Int)} {x : List Int} (w : OwAll G H L vs (xs.map (oL oI))) (h : vs[i]? = some (.ref b)) (hx : xs[i]? = some x) : H b = some (.lst (x.map V.int)) ∧ b ∈ L := by
  obtain ⟨L1, w1, h1⟩ := OwAll.pin w h hx
  obtain ⟨c, e, rfl, h2⟩ := Ow.toInts w1
  cases e
  exact ⟨h2, h1 _ List.mem_cons_self⟩
end
end Vx
namespace Vx
open PySem PySem.Spec PyProof.Rows L2
theorem lookup_relab {c : Str → Bool} {y : Str} : ∀ l : List (Str × NameKind), (l.lookup y = some .cell ∨ l.lookup y = some .free) →
    ((l.map fun (n, k) => if (k == .free && c n) then (n, NameKind.cell) else (n, k)).lookup y = some .cell ∨ (l.map fun (n, k) => if (k == .free && c n) then (n, NameKind.cell) else (n, k)).lookup y = some .free)
  | [], h => by simp at h
  | (n, k) :: r, h => by
    rw [List.map_cons]
    dsimp only
    by_cases e : y == n
    · have hk : k = .cell ∨ k = .free := by
        rw [List.lookup_cons, e] at h
        simpa using h
      by_cases q : (k == .free && c n) = true
      · left
        rw [if_pos q, List.lookup_cons, e]
      · rw [if_neg q, List.lookup_cons, e]
        simpa using hk
    · have e : (y == n) = false := by simpa using e
      rw [List.lookup_cons, e] at h
      have ih := lookup_relab (c := c) r h
      by_cases q : (k == .free && c n) = true
      · rw [if_pos q, List.lookup_cons, e]
        exact ih
      · rw [if_neg q, List.lookup_cons, e]
        exact ih
theorem blk_relabel {N : List Str} {sc scope : Scope} {env : Env} {own : List (Str × Nat)} (h : BlkOk N sc scope own) : BlkOk N (relabel sc env) scope own := by
  refine ⟨h.kind, h.uniq, h.ix, fun y hy e => ?_, h.own⟩
  have z := lookup_relab (c := fun n => env.scope.kind == .function && env.kindOf n == some .cell) (y := y.1) sc.names (h.free y hy e)
  unfold relabel
  simpa only [Bool.and_assoc] using z
end Vx
namespace Vx
open PySem PySem.Spec PyProof.Rows L2
theorem FnG.low {P : Program} {w : World} {K : PySem.W.Frag} {mg : Str → Option Value} {base : Heap} {cx : CXT} {j k : Nat} {f : Addr} {fd : FuncData} {ps : List Str} {sp : Sp} (F : FnG P w K mg base cx j f fd ps sp) (h : j ≤ k) : FnG P w K mg base cx k f fd ps sp := ⟨F.len, fun A o s H a us vs Q E r => F.run A o s H a us vs Q E (r.low h)⟩
/-! ### a local name that holds one of several defs -/
structure HeldX (P : Program) (w : World) (K : PySem.W.Frag) (mg : Str → Option Value) (base : Heap) (k n : Nat) (f : Addr) (sp : Sp) : Prop where
  ex : ∃ (fd : FuncData) (ps : List Str), FnG P w K mg base (L2.CX P w) k f fd ps sp ∧ PySem.W.keepIn K (.ref f) = true ∧ Bnd K fd ps n [] (fun vs _ => vs)
theorem HeldX.of {P : Program} {w : World} {K : PySem.W.Frag} {mg : Str → Option Value} {base : Heap} {j k n : Nat} {x : Str} {sp : Sp} {pats : List Pat} {a : Addr} (c : CalX P w K mg base j x sp pats) (hx : mg x = some (.ref a)) (hp : (n, [], fun vs _ => vs) ∈ pats) (hj : j ≤ k) : HeldX P w K mg base k n a sp := by
  obtain ⟨f, fd, ps, F, hm, kp, b⟩ := c.ex
  rw [hx] at hm
  injection hm with hm
  injection hm with hm
  subst hm
  exact ⟨fd, ps, F.low hj, kp, b _ hp⟩
def tCallF (i n : Nat) (L : List (Addr × Sp)) (W : WX) (t : TA) : TE := fun σ H Q => ∃ f sp, σ[i]? = some (some (.ref f)) ∧ (f, sp) ∈ L ∧ t σ H fun vs H1 => vs.length = n ∧ ([] : List V).length = 0 ∧ sp vs H1 Q (WE W σ)
theorem vx_callF {X : Cx} {k j i n : Nat} {x : Str} {p pos : Pos} {e : Expr} {es : List Expr} {t : TA} {W : WX} (L : List (Addr × Sp)) (A : ∀ q ∈ L, HeldX X.prog X.w X.K X.mg X.base k n q.1 q.2) (hr : RoomG j X.A) (hk : k ≤ j) (tkW : Takes X W) (hN : X.N[i]? = some x) (hv : Vis X.env.scope x) (ha : PA X (e :: es) t)
    (hdb : (x == ("__debug__" : Str)) = false := by decide) (hcd : (x == ("__classdict__" : Str)) = false := by decide) (he : starEach (e :: es) X.env = (false, eval e X.env) :: starEach es X.env := by rfl) (hpl : (backTo pos (starEach es X.env)).any (·.1) = false := by rfl) :
    PE X (.Call (.Name x p) (e :: es) [] pos) (tCallF i n L W t) := by
  constructor
  intro pins s σ H Q I h
  obtain ⟨f, sp, slot, mem, rest⟩ := h
  obtain ⟨fd, ps, F, kp, b⟩ := (A _ mem).ex
  refine wpAny_Call_Name_kw (thn ((pe_var (pos := p) hN hv hdb hcd).run pins s σ H (fun v H1 => v = .ref f ∧ H1 = H) I ⟨.ref f, slot, rfl, rfl⟩) ?_)
  rintro u s1 ⟨v, H1, I1, r1, rfl, rfl⟩
  cases r1
  refine PySem.W.callWith_K (h₀ := X.base) I.ok.mod.kin kp (thn (ha.run pos pins s1 σ _ _ I1 rest) ?_) he hpl
  rintro us s2 ⟨vs, H2, I2, r, l1, l2, q⟩
  exact ⟨I2.kIn, run_X (us := us) (ws := []) (zs := []) F (hr.low hk) b tkW I2 r .nil l1 l2 q⟩
/-! ### the least of a list, the place of an item -/
def minL : List Int → Int
  | [] => 0
  | [x] => x
  | x :: y :: r => if x ≤ minL (y :: r) then x else minL (y :: r)
theorem minL_spec : ∀ (xs : List Int), xs ≠ [] → minL xs ∈ xs ∧ ∀ y ∈ xs, minL xs ≤ y
  | [], h => absurd rfl h
  | [x], _ => ⟨List.mem_cons_self, fun y hy => by rw [List.mem_singleton.mp hy]; exact Int.le_refl x⟩
  | x :: y :: r, _ => by
    obtain ⟨h1, h2⟩ := minL_spec (y :: r) (fun z => nomatch z)
    unfold minL
    split
    · refine ⟨List.mem_cons_self, fun z hz => ?_⟩
      rcases List.mem_cons.mp hz with rfl | hz
      · exact Int.le_refl _
      · have := h2 z hz
        omega
    · refine ⟨List.mem_cons_of_mem _ h1, fun z hz => ?_⟩
      rcases List.mem_cons.mp hz with rfl | hz
      · omega
      · exact h2 z hz
def maxL (xs : List Int) : Int := -(minL (xs.map fun x => -x))
theorem maxL_spec (xs : List Int) (h : xs ≠ []) : maxL xs ∈ xs ∧ ∀ y ∈ xs, y ≤ maxL xs := by
  obtain ⟨h1, h2⟩ := minL_spec (xs.map fun x => -x) (by simpa using h)
  obtain ⟨z, hz, e⟩ := List.mem_map.mp h1
  unfold maxL
  refine ⟨by rw [← e, Int.neg_neg]; exact hz, fun y hy => ?_⟩
  have := h2 _ (List.mem_map_of_mem hy)
  omega
section
variable {X : Cx} {K : PySem.W.Frag}
def rMinL (K : PySem.W.Frag) : List V → Hp → VK → Prop := fun vs H Q => ∃ (a : Addr) (ns : List Int), vs = [V.ref a] ∧ SqL K H a (ns.map V.int) ∧ ns ≠ [] ∧ Q (.int (minL ns)) H
def rMaxL (K : PySem.W.Frag) : List V → Hp → VK → Prop := fun vs H Q => ∃ (a : Addr) (ns : List Int), vs = [V.ref a] ∧ SqL K H a (ns.map V.int) ∧ ns ≠ [] ∧ Q (.int (maxL ns)) H
theorem cr_minL (hc : X.calm = true) (hK : X.K = K := by rfl) : CallR X (.builtin "min") (rMinL K) := by
  subst hK
  intro pins s σ H vs us Q I r h
  obtain ⟨a, ns, rfl, hs, hn, q⟩ := h
  refine cr_min hc pins s σ H _ us Q I r ⟨a, ns, rfl, hs, List.length_pos_iff.mpr hn, fun m hm hle => ?_⟩
  obtain ⟨h1, h2⟩ := minL_spec ns hn
  have e : m = minL ns := Int.le_antisymm (by have := hle _ h1; omega) (h2 m hm)
  rw [e]
  exact q
theorem cr_maxL (hc : X.calm = true) (hK : X.K = K := by rfl) : CallR X (.builtin "max") (rMaxL K) := by
  subst hK
  intro pins s σ H vs us Q I r h
  obtain ⟨a, ns, rfl, hs, hn, q⟩ := h
  refine cr_max hc pins s σ H _ us Q I r ⟨a, ns, rfl, hs, List.length_pos_iff.mpr hn, fun m hm hle => ?_⟩
  obtain ⟨h1, h2⟩ := maxL_spec ns hn
  have e : m = maxL ns := Int.le_antisymm (h2 m hm) (by have := hle _ h1; omega)
  rw [e]
  exact q
end
end Vx
namespace Vx
open PySem PySem.Spec PyProof.Rows L2
def idxL (ns : List Int) (i : Int) : Int := (ns.idxOf i : Nat)
def rIndexI (K : PySem.W.Frag) : V → List V → Hp → VK → Prop := fun x xs H Q => ∃ (a : Addr) (ns : List Int) (i : Int), x = V.ref a ∧ xs = [.int i] ∧ SqL K H a (ns.map V.int) ∧ i ∈ ns ∧ Q (.int (idxL ns i)) H
theorem mt_indexI {X : Cx} {K : PySem.W.Frag} (hK : X.K = K := by rfl) : MtR X "list.index" (rIndexI K) := by
  subst hK
  intro pins s σ H x xs v us Q I rx rxs h
  obtain ⟨a, ns, i, rfl, rfl, hs, hi, q⟩ := h
  have hl := List.idxOf_lt_length_of_mem hi
  refine mt_index pins s σ H _ _ v us Q I rx rxs ⟨a, _, .int i, ns.idxOf i, .int i, rfl, rfl, hs, rfl, flat_ints ns, ?_, by simp [eqV], fun m z hm hz => ?_, q⟩
  · rw [List.getElem?_map, List.getElem?_eq_getElem hl, List.getElem_idxOf hl] <;> rfl
  · rw [List.getElem?_map] at hz
    cases e : ns[m]? with
    | none => rw [e] at hz; cases hz
    | some y =>
      rw [e] at hz
      cases hz
      have hml : m < ns.length := by omega
      have hy : ns[m] = y := by
        rw [List.getElem?_eq_getElem hml] at e
        exact Option.some.inj e
      have := List.not_of_lt_findIdx (p := (· == i)) (xs := ns) (i := m) hm
      simp only [beq_iff_eq, hy] at this
      simp [eqV, this]
theorem cW_aftgo {σ ρ τ : Type} {s : σ} {kr : ρ → Rx τ} {k : σ → Rx τ} {K : τ → Prop} {E : Nat → Prop} (h : cW ((Lp.go s : Lp σ ρ).aft kr k) K E) : cW (k s) K E := h
end Vx
namespace Vx
open PySem PySem.Spec PyProof.Rows L2
/-! ### a truth value or a number beside a number -/
def Bi.num : Bi → Int
  | .b x => if x then 1 else 0
  | .n i => i
def Bi.dat : Bi → PyData
  | .b x => .bool x
  | .n i => .int i
section
variable {X : Cx}
def rEqBI : R2 := fun x y H Q => ∃ (b : Bi) (i : Int), x = biV b ∧ y = .int i ∧ Q (.bl (decide (b.num = i))) H
def rNeBI : R2 := fun x y H Q => ∃ (b : Bi) (i : Int), x = biV b ∧ y = .int i ∧ Q (.bl (!decide (b.num = i))) H
theorem eqv_bi (b : Bi) (i : Int) : PyData.eqv b.dat (.int i) = decide (b.num = i) := by
  cases b with
  | b x => cases x <;> (rw [Bool.eq_iff_iff]; simp [Bi.dat, Bi.num, PyData.eqv])
  | n j =>
    rw [Bool.eq_iff_iff]
    simp only [Bi.dat, Bi.num, PyData.eqv, beq_iff_eq]
    exact decide_eq_true_iff.symm
theorem dp_bi {K : PySem.W.Frag} {H : Hp} : ∀ b : Bi, Dp K H (biV b) b.dat
  | .b x => .bl x
  | .n i => .int i
theorem shaped_bi : ∀ b : Bi, SeqAt.shaped b.dat = true
  | .b x => by unfold SeqAt.shaped; simp [Bi.dat, PyData.canLay0, PyData.depth]
  | .n i => by unfold SeqAt.shaped; simp [Bi.dat, PyData.canLay0, PyData.depth]
theorem op_eqBI (hu : X.A.units + 64 < cLine) : OpR X (compareOp .Eq) rEqBI := by
  intro pins s σ H x y v u Q I rx ry h
  obtain ⟨b, i, rfl, rfl, q⟩ := h
  exact op_eqD hu pins s σ H _ _ v u Q I rx ry ⟨b.dat, .int i, dp_bi b, .int i, shaped_bi b, shaped_bi (.n i), by rw [eqv_bi]; exact q⟩
theorem op_neBI (hu : X.A.units + 64 < cLine) : OpR X (compareOp .NotEq) rNeBI := by
  intro pins s σ H x y v u Q I rx ry h
  obtain ⟨b, i, rfl, rfl, q⟩ := h
  exact op_neD hu pins s σ H _ _ v u Q I rx ry ⟨b.dat, .int i, dp_bi b, .int i, shaped_bi b, shaped_bi (.n i), by rw [eqv_bi]; exact q⟩
end
end Vx
namespace Vx
open PySem PySem.Spec PyProof.Rows L2
/-! ### == of own objects by an own __eq__ that never raises -/
section
variable {X : Cx} {k j : Nat}
def rEqX (C : Addr) (n mm : Nat) (sp : Sp) (g : List V → List V → List V) : R2 := fun x y H Q => ∃ (a b dx dy : Addr) (fs gs : List (Str × V)), x = .ref a ∧ y = .ref b ∧ H a = some (.ins C dx fs) ∧ H b = some (.ins C dy gs) ∧ 2 = n ∧ 0 = mm ∧ sp (g [x, y] []) H (fun v H' => (∃ r, v = .bl r) ∧ Q v H') E0
theorem op_eqX {C : Addr} {sp : Sp} {pats : List Pat} (c : MetX X.prog X.w X.K X.mg X.base k C "__eq__" sp pats) (pt : Pat) (hpt : pt ∈ pats) (hr : RoomG j X.A) (hk : k ≤ j) (hks : pt.2.1 = [] := by rfl) : OpR X (compareOp .Eq) (rEqX C pt.1 pt.2.1.length sp pt.2.2) := by
  intro pins s σ H x y v u Q I rx ry hq
  obtain ⟨a, b, dx, dy, fs, gs, rfl, rfl, ha, hb', l1, l2, q⟩ := hq
  obtain ⟨f, fd, ps, hc, hm, F, bb⟩ := c.ex
  cases rx
  cases ry
  obtain ⟨mA, J, _⟩ := ins_get I.hok ha
  obtain ⟨mB, J', _⟩ := ins_get I.hok hb'
  obtain ⟨od, J, _⟩ := J.look
  obtain ⟨od', J', _⟩ := J'.look
  obtain ⟨m, hF⟩ := I.fr
  have hz := run_X (us := [.ref a, .ref b]) (vs := [.ref a, .ref b]) (ws := []) (zs := []) F (hr.low hk) (bb pt hpt) (takes0 (X := X)) I (.cons rfl (.cons rfl .nil)) .nil l1 l2 q
  rw [hks] at hz
  show wpAny (model X.prog X.w) X.A (richCompare .Eq (.ref a) (.ref b)) (EP X pins σ Q) X.xe s
  refine PySem.W.cmp_K (op := .Eq) (tb := .ref C) (hr.low hk).toRoom.units0 hF I.ok.mod.kin J J'.type (by simp [PySem.W.notFirst]) hm.at_ hm.fn ?_
  refine wpAny_mono hz (fun r s' z => ?_) fun _ _ e => e
  obtain ⟨w, H', I', rw', ⟨⟨q1, rfl⟩, q2⟩⟩ := z
  cases rw'
  exact ⟨V.bl q1, H', I', rfl, q2⟩
end
end Vx
namespace Vx
open PySem PySem.Spec PyProof.Rows L2
/-! ### isinstance of the exception in hand: a built-in class, a tuple of classes -/
theorem kit_blt {K : PySem.W.Frag} {D : Addr} {T : String} {b : Bool} (h : PySem.W.subIn K (.ref D) (.type T) = some b) (h0 : PySem.W.kitMeta T = true := by decide +kernel) : PySem.W.kitOne K (.ref D) (.type T) = some b := by
  unfold PySem.W.kitOne
  rw [if_neg (show ¬ (Value.ref D == Value.type T) = true from fun z => nomatch (show false = true from z))]
  show (if PySem.W.kitMeta T = true then PySem.W.subIn K (.ref D) (.type T) else none) = some b
  rw [if_pos h0, h]
def rIsXB (K : PySem.W.Frag) (a : Addr) (cls : Value) (d : Option Addr) : List V → Hp → VK → Prop := fun xs H Q => ∃ (D : Addr) (T : String) (b : Bool), cls = .ref D ∧ d = none ∧ ExcC K D ∧ xs = [.ref a, .ty T] ∧ PySem.W.kitOne K (.ref D) (.type T) = some b ∧ Q (.bl b) H
theorem call_isXB {X : Cx} {K : PySem.W.Frag} {a : Addr} {cls : Value} {d : Option Addr} {oe : Obj} {pn : List (Addr × Obj)} (hz : Zc cls d oe) (hf : ∃ vs, oe.data = .fields vs) (hK : X.K = K := by rfl) : CallR (X.suite a ((a, oe) :: pn)) (.builtin "isinstance") (rIsXB K a cls d) := by
  subst hK
  intro pins s σ H xs us Q I r h
  obtain ⟨D, T, b, rfl, rfl, c, rfl, e, q⟩ := h
  exact call_isE c hz hf pins s σ H _ us Q I r ⟨_, _, b, rfl, fun u z => z, e, q⟩
def rIsXT (K : PySem.W.Frag) (a : Addr) (cls : Value) (d : Option Addr) : List V → Hp → VK → Prop := fun xs H Q => ∃ (D tp : Addr) (cs : List V) (ws : List Value) (b : Bool), cls = .ref D ∧ d = none ∧ ExcC K D ∧ xs = [.ref a, .ref tp] ∧ H tp = some (.tup cs) ∧ Paired ClsV cs ws ∧ PySem.W.kitAny K (.ref D) ws = some b ∧ Q (.bl b) H
theorem call_isXT {X : Cx} {K : PySem.W.Frag} {a : Addr} {cls : Value} {d : Option Addr} {oe : Obj} {pn : List (Addr × Obj)} (hz : Zc cls d oe) (hf : ∃ vs, oe.data = .fields vs) (hK : X.K = K := by rfl) : CallR (X.suite a ((a, oe) :: pn)) (.builtin "isinstance") (rIsXT K a cls d) := by
  subst hK
  intro pins s σ H xs us Q I r h
  obtain ⟨D, tp, cs, ws, b, rfl, rfl, C, rfl, hT, k, e, q⟩ := h
  cases r with
  | cons rx rr =>
    cases rr with
    | cons rt rr =>
      cases rr
      cases rx
      cases rt
      obtain ⟨hget, _⟩ := I.pin (a, oe) (List.mem_append.mpr (.inl List.mem_cons_self))
      obtain ⟨vs, hv⟩ := hf
      have J : PySem.W.InstAt s.heap a oe D none := by
        obtain ⟨oc, od, oda, osl⟩ := oe
        obtain ⟨h1, h2⟩ := hz
        dsimp only at h1 h2 hv
        subst h1 h2 hv
        exact ⟨hget, rfl, rfl, trivial⟩
      obtain ⟨_, its, rv, o, h1, h2, n, h3⟩ := (show ObjOk X.prog X.w H s.heap tp (.tup cs) from I.hok tp _ hT)
      have e3 := ClsV.all k rv
      subst e3
      obtain ⟨oc, od, dt, sl⟩ := o
      simp only at h2 h3
      subst h2 h3
      exact PySem.W.kia_tup (PySem.W.handS_kitx_exc C.hg C.hk C.hs C.hd C.ha C.hn C.ht C.hm) I.kIn J h1 e (fun z => nomatch z) fun tk => ⟨.bl b, H, I.kept (t' := tk) fun _ _ z => z, rfl, q⟩
theorem kit_self {K : PySem.W.Frag} {t : Value} (h : (t == t) = true := by simp) : PySem.W.kitOne K t t = some true := by
  unfold PySem.W.kitOne
  rw [if_pos h]
/-- what a class must say, so that isinstance asks its objects rightly -/
structure IsiC (K : PySem.W.Frag) (C : Addr) : Prop where
  ha : PySem.W.findIn K (.ref C) "__class__" = some (some (.builtin "object.__class__"))
  hn : PySem.W.specialIn K (.builtin "object.__class__") "__get__" = some (some (.builtin "getset_descriptor.__get__"))
  ht : PySem.W.takesIn K (.builtin "object.__class__") = some true
  hm : PySem.W.mroIn K C (.type "object") = some true
theorem tyX_ins {K : PySem.W.Frag} {H : Hp} {a C dx : Addr} {fs : List (Str × V)} (e : H a = some (.ins C dx fs)) (cl : Cls K C) (c : IsiC K C) : TyX K H (.ref a) (.ref C) := .base (.ins e cl c.ha c.hn c.ht c.hm)
end Vx
namespace Vx
open PySem PySem.Spec PyProof.Rows L2
theorem op_notTrue {X : Cx} : OpR X (compareOp .IsNot) (fun x y H Q => ∃ b : Bool, x = .bl b ∧ y = .bl true ∧ Q (.bl (!b)) H) := by
  intro pins s σ H x y v u Q I rx ry h
  obtain ⟨b, rfl, rfl, q⟩ := h
  cases rx
  cases ry
  show wpAny (model X.prog X.w) X.A (compareOp .IsNot (.bool b) (.bool true)) (EP X pins σ Q) X.xe s
  have e : compareOp .IsNot (.bool b) (.bool true) = pure (.bool (!b)) := by cases b <;> rfl
  rw [e]
  exact wpAny_pure ⟨.bl (!b), H, I, rfl, q⟩
end Vx
/-! # lists stored into trees -/
namespace Vx
open PySem PySem.Spec PyProof.Rows L2
section
variable {G H I : Hp} {α : Type} {f : α → Dt} {L : List Addr} {vs : List V} {xs : List α}
theorem OwAll.set {L1 : List Addr} {v : V} {d : Dt} (h : Ow G H L1 v d) : ∀ {L : List Addr} {vs : List V} {ds : List Dt} (i : Nat), i < ds.length → OwAll G H L vs ds → (∀ b ∈ L1, b ∉ L) → ∃ L', (∀ b ∈ L', b ∈ L ++ L1) ∧ OwAll G H L' (vs.set i v) (ds.set i d)
  | _, _, _, _, hi, .nil, _ => absurd hi (Nat.not_lt_zero _)
  | _, _, _, 0, _, .cons (L1 := La) (L2 := Lb) a r n, nf => by
    refine ⟨L1 ++ Lb, fun b hb => ?_, .cons h r fun b hb q => nf b hb (List.mem_append_right _ q)⟩
    rcases List.mem_append.mp hb with q | q
    · exact List.mem_append_right _ q
    · exact List.mem_append_left _ (List.mem_append_right _ q)
  | _, _, _, i + 1, hi, .cons (L1 := La) (L2 := Lb) a r n, nf => by
    obtain ⟨L', s, w⟩ := OwAll.set h i (Nat.lt_of_succ_lt_succ hi) r fun b hb q => nf b hb (List.mem_append_right _ q)
    refine ⟨La ++ L', fun b hb => ?_, .cons a w fun b hb q => ?_⟩
    · rcases List.mem_append.mp hb with q | q
      · exact List.mem_append_left _ (List.mem_append_left _ q)
      · rcases List.mem_append.mp (s b q) with z | z
        · exact List.mem_append_left _ (List.mem_append_right _ z)
        · exact List.mem_append_right _ z
    · rcases List.mem_append.mp (s b q) with z | z
      · exact n b hb z
      · exact nf b z (List.mem_append_left _ hb)
theorem ixN_len {k : Int} (e : vs.length = xs.length) (h : -(xs.length : Int) ≤ k ∧ k < xs.length) : ixN vs.length k = some ((ixN vs.length k).getD 0) := by
  rw [e]
  obtain ⟨j, hj, _⟩ := ixN_some h
  rw [hj]
  rfl
theorem OwAll.setM {k : Int} {L1 : List Addr} {v : V} {y : α} (w : OwAll G H L vs (xs.map f)) (h : -(xs.length : Int) ≤ k ∧ k < xs.length) (ow : Ow G H L1 v (f y)) (n : ∀ b ∈ L1, b ∉ L) :
    ∃ L', (∀ b ∈ L', b ∈ L ++ L1) ∧ OwAll G H L' (vs.set ((ixN vs.length k).getD 0) v) ((setL xs k y).map f) := by
  obtain ⟨j, e, hj⟩ := ixN_some h
  obtain ⟨L', s, z⟩ := OwAll.set ow j (by simpa using hj) w n
  refine ⟨L', s, ?_⟩
  unfold setL
  rw [w.lenM, e, List.map_set]
  exact z
end
theorem ne_of_len {α : Type} {xs : List α} (h : xs.length = 4 ∨ xs.length = 6 ∨ xs.length = 8) : xs ≠ [] := by
  rintro rfl
  simp at h
end Vx
namespace Vx
open PySem PySem.Spec PyProof.Rows L2
/-! ### written dicts of ints -/
inductive EI : List (Int × Int) → List DictEntry → Prop
  | nil : EI [] []
  | cons {k v : Int} {t u : Tok} {r : List (Int × Int)} {es : List DictEntry} (h : EI r es) : EI ((k, v) :: r) (⟨hashInt k, .int k t, .int v u⟩ :: es)
def lookI : List (Int × Int) → Int → Option Int
  | [], _ => none
  | (k, v) :: r, i => if i = k then some v else lookI r i
def KDI (K : PySem.W.Frag) (a : Addr) (kvs : List (Int × Int)) : Prop :=
  ∃ es n, K.lookup a = some ⟨.type "dict", none, .dict es n, #[]⟩ ∧ (a == sysModules) = false ∧ EI kvs es.toList
theorem lookI_mem {kvs : List (Int × Int)} {i : Int} : (lookI kvs i).isSome = decide (i ∈ kvs.map (·.1)) := by
  induction kvs with
  | nil => rfl
  | cons p r ih =>
    obtain ⟨k, v⟩ := p
    unfold lookI
    by_cases q : i = k
    · rw [if_pos q]; simp [q]
    · rw [if_neg q, ih]; simp [q]
theorem EI.find {i : Int} : ∀ {kvs : List (Int × Int)} {es : List DictEntry}, EI kvs es → match lookI kvs i with
    | some v => ∃ u, (es.find? fun e => keyIs (.inl i) e.key).map (·.val) = some (.int v u)
    | none => (es.find? fun e => keyIs (.inl i) e.key).map (·.val) = none
  | _, _, .nil => rfl
  | _, _, .cons (k := k) (v := v) (t := t) (u := u) (r := r) (es := es) h => by
    have ih := EI.find (i := i) h
    unfold lookI
    by_cases q : i = k
    · subst q
      rw [if_pos rfl]
      refine ⟨u, ?_⟩
      rw [List.find?_cons_of_pos (by exact keyIs_int i t)]
      rfl
    · rw [if_neg q]
      have e : ¬ (keyIs (.inl i) (Value.int k t) = true) := by
        intro z
        obtain ⟨t', e'⟩ := Value.isInt_shape (k := i) (v := Value.int k t) z
        injection e' with e1 _
        exact q e1.symm
      rw [List.find?_cons_of_neg (by exact e)]
      exact ih
theorem EI.keys {P : Program} {w : World} : ∀ {kvs : List (Int × Int)} {es : List DictEntry}, EI kvs es → ∀ e ∈ es, ∃ k, (mixKind P w).is k e.key = true ∧ e.hash = (mixKind P w).hash k
  | _, _, .nil, e, he => nomatch he
  | _, _, .cons (k := k) (t := t) h, e, he => by
    rcases List.mem_cons.mp he with rfl | he
    · exact ⟨.inl k, keyIs_int k t, rfl⟩
    · exact EI.keys h e he
section
variable {X : Cx} {K : PySem.W.Frag}
theorem KDI.map {d : Addr} {kvs : List (Int × Int)} {pins : List (Addr × Obj)} {σ : L2.St} {H : Hp} {s : Shared} (D : KDI X.K d kvs) (I : Inv X pins σ H s) : (d == sysModules) = false ∧ ∃ f, s.heap.MapOf (mixKind X.prog X.w) d f ∧ ∀ i, match lookI kvs i with
    | some v => ∃ u, f (.inl i) = some (.int v u)
    | none => f (.inl i) = none := by
  obtain ⟨es, n, hl, hd, he⟩ := D
  refine ⟨hd, fun k => findBy keyIs es k, ⟨_, es, n, I.kIn _ _ hl, ⟨rfl, rfl, rfl⟩, rfl, fun e q => EI.keys he e (Array.mem_toList_iff.mpr q), fun _ => rfl⟩, fun i => ?_⟩
  have := EI.find (i := i) he
  have e : findBy keyIs es (.inl i) = (es.toList.find? fun e => keyIs (.inl i) e.key).map (·.val) := by
    obtain ⟨l⟩ := es
    unfold findBy
    rw [List.find?_toArray]
  show match lookI kvs i with
    | some v => ∃ u, findBy keyIs es (.inl i) = some (.int v u)
    | none => findBy keyIs es (.inl i) = none
  rw [e]
  exact this
def rInDI (K : PySem.W.Frag) : R2 := fun x y H Q => ∃ (i : Int) (d : Addr) (kvs : List (Int × Int)) (ks : List Int), x = .int i ∧ y = .ref d ∧ KDI K d kvs ∧ ks = kvs.map (·.1) ∧ Q (.bl (decide (i ∈ ks))) H
def rNotInDI (K : PySem.W.Frag) : R2 := fun x y H Q => ∃ (i : Int) (d : Addr) (kvs : List (Int × Int)) (ks : List Int), x = .int i ∧ y = .ref d ∧ KDI K d kvs ∧ ks = kvs.map (·.1) ∧ Q (.bl (!decide (i ∈ ks))) H
def rIxDI (K : PySem.W.Frag) : R2 := fun x y H Q => ∃ (d : Addr) (i v : Int) (kvs : List (Int × Int)), x = .ref d ∧ y = .int i ∧ KDI K d kvs ∧ lookI kvs i = some v ∧ Q (.int v) H
theorem op_inDI (hK : X.K = K := by rfl) : OpR X (compareOp .In) (rInDI K) := by
  subst hK
  intro pins s σ H x y v u Q I rx ry h
  obtain ⟨i, d, kvs, ks, rfl, rfl, D, rfl, q⟩ := h
  rw [← lookI_mem] at q
  obtain ⟨t, rfl⟩ := rx
  cases ry
  obtain ⟨hd, f, hm, hf⟩ := D.map I
  refine wpAny_in_of (knd := mixKind X.prog X.w) (kV_is (k := .inl i) ⟨t, rfl⟩) hd hm ?_
  have e : (f (.inl i)).isSome = (lookI kvs i).isSome := by
    have := hf i
    split at this
    · next v hv => obtain ⟨u, hu⟩ := this; rw [hu, hv]; rfl
    · next hv => rw [this, hv]; rfl
  rw [e]
  exact ⟨.bl (lookI kvs i).isSome, H, I.tok _, rfl, q⟩
theorem op_notInDI (hK : X.K = K := by rfl) : OpR X (compareOp .NotIn) (rNotInDI K) := by
  subst hK
  intro pins s σ H x y v u Q I rx ry h
  obtain ⟨i, d, kvs, ks, rfl, rfl, D, rfl, q⟩ := h
  rw [← lookI_mem] at q
  obtain ⟨t, rfl⟩ := rx
  cases ry
  obtain ⟨hd, f, hm, hf⟩ := D.map I
  refine wpAny_notIn_of (knd := mixKind X.prog X.w) (kV_is (k := .inl i) ⟨t, rfl⟩) hd hm ?_
  have e : (f (.inl i)).isSome = (lookI kvs i).isSome := by
    have := hf i
    split at this
    · next v hv => obtain ⟨u, hu⟩ := this; rw [hu, hv]; rfl
    · next hv => rw [this, hv]; rfl
  rw [e]
  exact ⟨.bl (!(lookI kvs i).isSome), H, I.tok _, rfl, q⟩
theorem ix_DI (hK : X.K = K := by rfl) : IxR X (rIxDI K) := by
  subst hK
  intro value slice pins s σ H x y v u Q I rx ry h hs
  obtain ⟨p, i, r, kvs, rfl, rfl, D, e, q⟩ := h
  obtain rfl : v = Value.ref p := rx
  obtain ⟨t, rfl⟩ := ry
  obtain ⟨hd, f, hm, hf⟩ := D.map I
  have := hf i
  rw [e] at this
  obtain ⟨u, hu⟩ := this
  exact tail_any hm.typeIs slot_dict_getitem.lookup (wpAny_getItem_of (knd := mixKind X.prog X.w) (kV_is (k := .inl i) ⟨t, rfl⟩) hm hu ⟨.int r, H, I.tok _, ⟨_, rfl⟩, q⟩) hs
end
/-- the value at a key that is there -/
def dictI (kvs : List (Int × Int)) (i : Int) : Int := (lookI kvs i).getD 0
theorem lookI_at {kvs : List (Int × Int)} {i : Int} (h : i ∈ kvs.map (·.1)) : lookI kvs i = some (dictI kvs i) := by
  have := lookI_mem (kvs := kvs) (i := i)
  rw [decide_eq_true h] at this
  unfold dictI
  cases e : lookI kvs i with
  | none => rw [e] at this; cases this
  | some v => rfl
/-! ### walks over two lists, over numbered items, backwards -/
theorem pi_enumK {X : Cx} {K : PySem.W.Frag} {e : Expr} {ta : TA} {p pos tpos : Pos} {elts : List Expr} {kk : Nat} (hg : Gl X "enumerate") (hm : X.mg "enumerate" = none) (ha : PA X [e] ta) (hK : X.K = K := by rfl) (hs : starEach [e] X.env = [(false, eval e X.env)] := by rfl) :
    PI X (.Tuple elts kk tpos) (.Call (.Name "enumerate" p) [e] [] pos) (iEnum K ta) := hK ▸ pi_enum hg hm ha hs
section
variable {K : PySem.W.Frag} {a b : Addr} {xs ys : List V} {g : TG} {tb : TS} {tt : TT} {te : TE} {D : Ends} {σ : L2.St} {H H1 : Hp} {vs : List Nat} {DD : Addr} {Qd : Hp → Prop}
theorem for_enum (Pv : Nat → L2.St → Hp → Prop) (h0 : Pv 0 σ H) (hq : ∀ i σ H, Pv i σ H → SqL K H a xs)
    (hs : ∀ (i : Nat) (y : V) (T : Addr) (σ : L2.St) (H : Hp), xs[i]? = some y → H T = none → Pv i σ H → g (.ref T) σ (upd H T (.tup [.int (i : Nat), y])) fun σ2 H2 => tb { D with nx := Pv (i + 1), ct := Pv (i + 1), bk := D.nx } σ2 H2) (hd : ∀ σ H, Pv xs.length σ H → D.nx σ H) :
    ∃ W : Nat → Nat → L2.St → Hp → Prop, (∃ m, W 0 m σ H) ∧ ∀ i m σ H, W i m σ H →
      ((Ite K a).stop i H ∧ D.nx σ H) ∨ ((Ite K a).go i H ∧ ∃ N : L2.St → Hp → Prop, (∀ σ' H', N σ' H' → ∃ m', m' < m ∧ W (i + 1) m' σ' H') ∧ ∀ v H', (Ite K a).yld i H v H' → g v σ H' fun σ2 H2 => tb { D with nx := N, ct := N, bk := D.nx } σ2 H2) := by
  refine for_it walk_enum Pv h0 (fun i σ H _ p => hq i σ H p) (fun i x σ H H' hi p y => ?_) hd
  obtain ⟨T, x1, y1, rfl, hT, rfl, h1, h2⟩ := y
  cases h1
  exact hs i y1 T σ H h2 hT p
theorem lc_enum (Pv : Nat → Hp → Prop) (h0 : Pv 0 (upd H1 DD (.lst []))) (hq : ∀ i H, i ≤ xs.length → Pv i H → SqL K H a xs)
    (hs : ∀ (i : Nat) (y : V) (T : Addr) (H : Hp), xs[i]? = some y → H T = none → Pv i H → g (.ref T) (wipe σ vs) (upd H T (.tup [.int (i : Nat), y])) fun σ2 H2 => wipe σ2 vs = wipe σ vs ∧ tt σ2 H2 fun b H3 =>
      if b = true then te σ2 H3 fun y H4 => ∃ acc, H4 DD = some (.lst acc) ∧ acc.length < sizeLine ∧ Pv (i + 1) (upd H4 DD (.lst (acc ++ [y]))) else Pv (i + 1) H3) (hd : ∀ H, Pv xs.length H → Qd H) :
    ∃ W : Nat → Nat → Hp → Prop, (∃ m, W 0 m (upd H1 DD (.lst []))) ∧ ∀ i m H, W i m H →
      ((Ite K a).stop i H ∧ Qd H) ∨ ((Ite K a).go i H ∧ ∃ Nx : Hp → Prop, (∀ H', Nx H' → ∃ m', m' < m ∧ W (i + 1) m' H') ∧ ∀ x H', (Ite K a).yld i H x H' → g x (wipe σ vs) H' fun σ2 H2 => wipe σ2 vs = wipe σ vs ∧ tt σ2 H2 fun b H3 =>
        if b = true then te σ2 H3 fun y H4 => ∃ acc, H4 DD = some (.lst acc) ∧ acc.length < sizeLine ∧ Nx (upd H4 DD (.lst (acc ++ [y]))) else Nx H3) := by
  refine lc_it walk_enum Pv h0 hq (fun i x H H' hi p y => ?_) hd
  obtain ⟨T, x1, y1, rfl, hT, rfl, h1, h2⟩ := y
  cases h1
  exact hs i y1 T H h2 hT p
/-- zip of two lists of any lengths -/
theorem for_zipM (n : Nat) (hn : n = min xs.length ys.length) (Pv : Nat → L2.St → Hp → Prop) (h0 : Pv 0 σ H) (hq : ∀ i σ H, Pv i σ H → SqL K H a xs ∧ SqL K H b ys)
    (hs : ∀ (i : Nat) (x y : V) (T : Addr) (σ : L2.St) (H : Hp), xs[i]? = some x → ys[i]? = some y → H T = none → Pv i σ H → g (.ref T) σ (upd H T (.tup [x, y])) fun σ2 H2 => tb { D with nx := Pv (i + 1), ct := Pv (i + 1), bk := D.nx } σ2 H2) (hd : ∀ σ H, Pv n σ H → D.nx σ H) :
    ∃ W : Nat → Nat → L2.St → Hp → Prop, (∃ m, W 0 m σ H) ∧ ∀ i m σ H, W i m σ H →
      ((Itz K a b).stop i H ∧ D.nx σ H) ∨ ((Itz K a b).go i H ∧ ∃ N : L2.St → Hp → Prop, (∀ σ' H', N σ' H' → ∃ m', m' < m ∧ W (i + 1) m' σ' H') ∧ ∀ v H', (Itz K a b).yld i H v H' → g v σ H' fun σ2 H2 => tb { D with nx := N, ct := N, bk := D.nx } σ2 H2) := by
  refine for_it (walk_zip hn) Pv h0 (fun i σ H _ p => hq i σ H p) (fun i x σ H H' hi p y => ?_) hd
  obtain ⟨T, x1, y1, rfl, hT, rfl, h1, h2⟩ := y
  exact hs i x1 y1 T σ H h1 h2 hT p
theorem lc_zipM (n : Nat) (hn : n = min xs.length ys.length) (Pv : Nat → Hp → Prop) (h0 : Pv 0 (upd H1 DD (.lst []))) (hq : ∀ i H, i ≤ n → Pv i H → SqL K H a xs ∧ SqL K H b ys)
    (hs : ∀ (i : Nat) (x y : V) (T : Addr) (H : Hp), xs[i]? = some x → ys[i]? = some y → H T = none → Pv i H → g (.ref T) (wipe σ vs) (upd H T (.tup [x, y])) fun σ2 H2 => wipe σ2 vs = wipe σ vs ∧ tt σ2 H2 fun b H3 =>
      if b = true then te σ2 H3 fun y H4 => ∃ acc, H4 DD = some (.lst acc) ∧ acc.length < sizeLine ∧ Pv (i + 1) (upd H4 DD (.lst (acc ++ [y]))) else Pv (i + 1) H3) (hd : ∀ H, Pv n H → Qd H) :
    ∃ W : Nat → Nat → Hp → Prop, (∃ m, W 0 m (upd H1 DD (.lst []))) ∧ ∀ i m H, W i m H →
      ((Itz K a b).stop i H ∧ Qd H) ∨ ((Itz K a b).go i H ∧ ∃ Nx : Hp → Prop, (∀ H', Nx H' → ∃ m', m' < m ∧ W (i + 1) m' H') ∧ ∀ x H', (Itz K a b).yld i H x H' → g x (wipe σ vs) H' fun σ2 H2 => wipe σ2 vs = wipe σ vs ∧ tt σ2 H2 fun b H3 =>
        if b = true then te σ2 H3 fun y H4 => ∃ acc, H4 DD = some (.lst acc) ∧ acc.length < sizeLine ∧ Nx (upd H4 DD (.lst (acc ++ [y]))) else Nx H3) := by
  refine lc_it (walk_zip hn) Pv h0 hq (fun i x H H' hi p y => ?_) hd
  obtain ⟨T, x1, y1, rfl, hT, rfl, h1, h2⟩ := y
  exact hs i x1 y1 T H h1 h2 hT p
end
theorem zipM_len {α β : Type} {xs : List α} {ys : List β} : min xs.length ys.length = (xs.zip ys).length := by rw [List.length_zip]
theorem zipM_n {α β : Type} {vs ws : List V} {xs : List α} {ys : List β} (a : vs.length = xs.length) (b : ws.length = ys.length) : min xs.length ys.length = min vs.length ws.length := by rw [a, b]
def rListTK (K : PySem.W.Frag) : List V → Hp → VK → Prop := fun xs H Q => ∃ (p : Addr) (vs : List V), xs = [.ref p] ∧ SqT K H p vs ∧ ∀ l, H l = none → Q (.ref l) (upd H l (.lst vs))
theorem call_listTK {X : Cx} {K : PySem.W.Frag} (hK : X.K = K := by rfl) : CallR X (.type "list") (rListTK K) := by
  subst hK
  intro pins s σ H xs us Q I r h
  obtain ⟨p, vs, rfl, hs, q⟩ := h
  exact call_list_of pins s σ H _ us Q I r ⟨p, _, rfl, Or.inr hs, q⟩
/-- two lists that keep step -/
inductive F2 {α β : Type} (P : α → β → Prop) : List α → List β → Prop
  | nil : F2 P [] []
  | cons {a : α} {b : β} {l : List α} {m : List β} (h : P a b) (t : F2 P l m) : F2 P (a :: l) (b :: m)
theorem F2.get {α β : Type} {P : α → β → Prop} : ∀ {l : List α} {m : List β}, F2 P l m → ∀ (j : Nat), j < l.length → ∃ a b, l[j]? = some a ∧ m[j]? = some b ∧ P a b
  | _, _, .nil, j, h => absurd h (Nat.not_lt_zero _)
  | _, _, .cons h t, 0, _ => ⟨_, _, rfl, rfl, h⟩
  | _, _, .cons h t, j + 1, hj => t.get j (Nat.lt_of_succ_lt_succ hj)
theorem F2.at {α β : Type} [Inhabited α] [Inhabited β] {P : α → β → Prop} {l : List α} {m : List β} (h : F2 P l m) (k : Int) (h0 : 0 ≤ k) (h1 : k < l.length) : P (itD l k) (itD m k) := by
  obtain ⟨j, rfl⟩ : ∃ j : Nat, k = (j : Int) := ⟨k.toNat, by omega⟩
  obtain ⟨a, b, ha, hb, p⟩ := h.get j (by omega)
  have e1 : itD l (j : Int) = a := by unfold itD; rw [atI_nat ha]; rfl
  have e2 : itD m (j : Int) = b := by unfold itD; rw [atI_nat hb]; rfl
  rw [e1, e2]
  exact p
theorem SqT.cast {K : PySem.W.Frag} {H : Hp} {a : Addr} {xs ys : List V} (h : SqT K H a xs) (e : xs = ys) : SqT K H a ys := e ▸ h
/-- enumerate(xs) -/
def enumL {α : Type} (xs : List α) : List (Int × α) := (rng 0 xs.length).zip xs
theorem enumL_len {α : Type} (xs : List α) : (enumL xs).length = xs.length := by
  unfold enumL
  rw [List.length_zip, rng_len, Nat.min_self]
theorem enumL_get {α : Type} {xs : List α} {i : Nat} {x : α} (h : xs[i]? = some x) : (enumL xs)[i]? = some ((i : Int), x) := by
  have hl : i < xs.length := (List.getElem?_eq_some_iff.mp h).1
  unfold enumL
  rw [List.getElem?_zip_eq_some]
  refine ⟨?_, h⟩
  have := rng_get (lo := 0) hl
  rw [this]
  congr 1
  omega
end Vx
namespace Vx
open PySem PySem.Spec PyProof.Rows L2
theorem wipe_get : ∀ (σ : L2.St) (vs : List Nat) (j : Nat), (wipe σ vs)[j]? = if j ∈ vs ∧ j < σ.length then some none else σ[j]?
  | σ, [], j => by simp [wipe]
  | σ, v :: vs, j => by
    unfold wipe
    by_cases e : v = j
    · subst e
      by_cases h : v < σ.length
      · rw [List.getElem?_set_self (by rw [wipe_length]; exact h), if_pos ⟨List.mem_cons_self, h⟩]
      · rw [if_neg (fun z => h z.2), List.getElem?_eq_none (by rw [List.length_set, wipe_length]; omega), List.getElem?_eq_none (by omega)]
    · rw [List.getElem?_set_ne e, wipe_get σ vs j]
      have : (j ∈ v :: vs ∧ j < σ.length) ↔ (j ∈ vs ∧ j < σ.length) := by
        constructor
        · rintro ⟨h1, h2⟩
          rcases List.mem_cons.mp h1 with rfl | h1
          · exact absurd rfl e
          · exact ⟨h1, h2⟩
        · rintro ⟨h1, h2⟩
          exact ⟨List.mem_cons_of_mem _ h1, h2⟩
      by_cases q : j ∈ vs ∧ j < σ.length
      · rw [if_pos q, if_pos (this.mpr q)]
      · rw [if_neg q, if_neg (fun z => q (this.mp z))]
theorem wipe_wipe {σ : L2.St} {vs : List Nat} : wipe (wipe σ vs) vs = wipe σ vs := by
  apply List.ext_getElem?
  intro j
  rw [wipe_get (wipe σ vs), wipe_length]
  by_cases q : j ∈ vs ∧ j < σ.length
  · rw [if_pos q, wipe_get, if_pos q]
  · rw [if_neg q]
theorem wipe_set {σ : L2.St} {vs : List Nat} {v : Nat} {x : Option V} (h : v ∈ vs) : wipe (σ.set v x) vs = wipe σ vs := by
  apply List.ext_getElem?
  intro j
  rw [wipe_get, wipe_get, List.length_set]
  by_cases q : j ∈ vs ∧ j < σ.length
  · rw [if_pos q, if_pos q]
  · rw [if_neg q, if_neg q]
    by_cases e : v = j
    · subst e
      have hl : ¬ v < σ.length := fun z => q ⟨h, z⟩
      rw [List.getElem?_eq_none (by rw [List.length_set]; omega), List.getElem?_eq_none (by omega)]
    · rw [List.getElem?_set_ne e]
/-- a comprehension over a step range -/
theorem lc_rangeC {lo c : Int} {n : Nat} {g : TG} {tt : TT} {te : TE} {vs : List Nat} {σ : L2.St} {H1 : Hp} {D : Addr} {Qd : Hp → Prop} (Pv : Nat → Hp → Prop) (h0 : Pv 0 (upd H1 D (.lst [])))
    (hs : ∀ i H, i < n → Pv i H → g (.int (lo + (i : Nat) * c)) (wipe σ vs) H fun σ2 H2 => wipe σ2 vs = wipe σ vs ∧ tt σ2 H2 fun b H3 =>
      if b = true then te σ2 H3 fun y H4 => ∃ acc, H4 D = some (.lst acc) ∧ acc.length < sizeLine ∧ Pv (i + 1) (upd H4 D (.lst (acc ++ [y]))) else Pv (i + 1) H3) (hd : ∀ H, Pv n H → Qd H) :
    ∃ W : Nat → Nat → Hp → Prop, (∃ m, W 0 m (upd H1 D (.lst []))) ∧ ∀ i m H, W i m H →
      ((Itc lo c n).stop i H ∧ Qd H) ∨ ((Itc lo c n).go i H ∧ ∃ Nx : Hp → Prop, (∀ H', Nx H' → ∃ m', m' < m ∧ W (i + 1) m' H') ∧ ∀ x H', (Itc lo c n).yld i H x H' → g x (wipe σ vs) H' fun σ2 H2 => wipe σ2 vs = wipe σ vs ∧ tt σ2 H2 fun b H3 =>
        if b = true then te σ2 H3 fun y H4 => ∃ acc, H4 D = some (.lst acc) ∧ acc.length < sizeLine ∧ Nx (upd H4 D (.lst (acc ++ [y]))) else Nx H3) := by
  refine ⟨fun i m H => m = n - i ∧ i ≤ n ∧ Pv i H, ⟨n, by simp, Nat.zero_le _, h0⟩, ?_⟩
  rintro i m H ⟨rfl, hi, p⟩
  rcases Nat.lt_or_ge i n with hlt | hge
  · refine .inr ⟨hlt, Pv (i + 1), fun H' p' => ⟨n - (i + 1), by omega, rfl, hlt, p'⟩, fun x H' y => ?_⟩
    obtain ⟨e, y⟩ := y
    subst e y
    exact hs i _ hlt p
  · cases Nat.le_antisymm hi hge
    exact .inl ⟨Nat.le_refl _, hd H p⟩

/-! ### reversed(list of ints), any(list of ints) -/
theorem pi_revK {X : Cx} {K : PySem.W.Frag} {tg : Expr} {e : Expr} {ta : TA} {p pos : Pos} (hg : Gl X "reversed") (hm : X.mg "reversed" = none) (ha : PA X [e] ta) (hK : X.K = K := by rfl) (hs : starEach [e] X.env = [(false, eval e X.env)] := by rfl) :
    PI X tg (.Call (.Name "reversed" p) [e] [] pos) (iRev K ta) := hK ▸ pi_reversed hg hm ha hs
theorem for_revI {K : PySem.W.Frag} {a : Addr} {xs : List Int} {g : TG} {tb : TS} {D : Ends} {σ : L2.St} {H : Hp} (Pv : Nat → L2.St → Hp → Prop) (h0 : Pv 0 σ H) (hl : ∀ i σ H, i ≤ (xs.reverse.map V.int).length → Pv i σ H → SqL K H a (xs.map V.int))
    (hs : ∀ i x σ H, (xs.reverse.map V.int)[i]? = some x → Pv i σ H → g x σ H fun σ2 H2 => tb { D with nx := Pv (i + 1), ct := Pv (i + 1), bk := D.nx } σ2 H2) (hd : ∀ σ H, Pv (xs.reverse.map V.int).length σ H → D.nx σ H) :
    ∃ W : Nat → Nat → L2.St → Hp → Prop, (∃ m, W 0 m σ H) ∧ ∀ i m σ H, W i m σ H →
      ((Itv K a (xs.map V.int).length).stop i H ∧ D.nx σ H) ∨ ((Itv K a (xs.map V.int).length).go i H ∧ ∃ N : L2.St → Hp → Prop, (∀ σ' H', N σ' H' → ∃ m', m' < m ∧ W (i + 1) m' σ' H') ∧ ∀ x H', (Itv K a (xs.map V.int).length).yld i H x H' → g x σ H' fun σ2 H2 => tb { D with nx := N, ct := N, bk := D.nx } σ2 H2) := by
  have en : (xs.reverse.map V.int).length = (xs.map V.int).length := by rw [List.length_map, List.length_map, List.length_reverse]
  rw [en] at hl hd
  refine for_it walk_rev Pv h0 hl (fun i x σ H H' hi p y => ?_) hd
  obtain ⟨rfl, hx⟩ := y
  refine hs i x σ _ ?_ p
  rw [List.map_reverse, List.getElem?_reverse hi]
  exact hx
theorem ints_get : ∀ {ns : List Int} {us : List Value} {i : Nat} {v : Value}, IntsAre us ns → us[i]? = some v → ∃ t, v = .int (ns.getD i 0) t := by
  intro ns us i v h
  induction h generalizing i with
  | nil => intro z; simp at z
  | cons n t _ ih =>
    intro z
    cases i with
    | zero => simp at z; exact ⟨t, by rw [← z]; rfl⟩
    | succ i => exact ih (by simpa using z)
theorem any_rangeI : ∀ ns : List Int, (List.range ns.length).any (fun i => ns.getD i 0 != 0) = ns.any (fun x => x != 0)
  | [] => rfl
  | b :: bs => by
    rw [List.length_cons, List.range_succ_eq_map, List.any_cons, List.any_map, List.any_cons, ← any_rangeI bs]
    all_goals rfl
theorem ints_len : ∀ {ns : List Int} {us : List Value}, IntsAre us ns → us.length = ns.length := by
  intro ns us h
  induction h with
  | nil => rfl
  | cons _ _ _ ih => simp [ih]
def rAnyI (K : PySem.W.Frag) : List V → Hp → VK → Prop := fun vs H Q => ∃ (a : Addr) (ns : List Int), vs = [V.ref a] ∧ SqL K H a (ns.map V.int) ∧ Q (.bl (ns.any fun x => x != 0)) H
theorem cr_anyI {X : Cx} (hc : X.calm = true) : CallR X (.builtin "any") (rAnyI X.K) := by
  intro pins s σ H vs us Q I r h
  obtain ⟨a, ns, rfl, hs, q⟩ := h
  obtain ⟨its, rv, hl, _⟩ := I.list hs
  rw [Vals.ref1 r]
  have hb := rv.ints
  refine call_any_walk (iter_any hl.isList fun s₂ e2 st hne => ?_)
  subst e2
  have ht : TruthOf X.prog X.w X.A.in1 (fun i v => its.toArray[i]? = some v) (fun i => ns.getD i 0 != 0) := fun i v s Q E hv hq => by
    obtain ⟨t, rfl⟩ := ints_get hb (by simpa using hv)
    exact PyProof.Rows.truthy_int hq
  refine ⟨_, _, _, _, _, _, _, rfl, Walks.list (A := X.A.in1) (I.ok.hd hc) _ a hne its.toArray, st, ht, fun h' tk hk => ?_⟩
  refine ⟨.bl _, H, I.kept fun b o eo => hk b o (fun hmem => ?_) (Heap.get?_push_of_some _ eo), ?_, q⟩
  · rcases List.mem_cons.mp hmem with e1 | hmem
    · exact absurd (e1 ▸ Heap.lt_size eo) (Nat.lt_irrefl _)
    · cases hmem
  · show Value.bool _ = Value.bool _
    rw [← any_rangeI, List.size_toArray, ints_len hb]
theorem cr_anyIK {X : Cx} {K : PySem.W.Frag} (hc : X.calm = true) (hK : X.K = K := by rfl) : CallR X (.builtin "any") (rAnyI K) := hK ▸ cr_anyI hc
/-- an item of a list of data stored anew -/
theorem RpAll.setM {α : Type} {f : α → PyData} {G : Hp} {vs : List V} {xs : List α} {k : Int} {v : V} {y : α} (d : RpAll G vs (xs.map f)) (r : Rp G v (f y)) : RpAll G (vs.set ((ixN vs.length k).getD 0) v) ((setL xs k y).map f) := by
  have e : vs.length = xs.length := by rw [d.len, List.length_map]
  unfold setL
  rw [List.map_set, e]
  exact RpAll.set r _ d
end Vx
/-! # fourth part: reckoning with functions that may refuse -/
namespace Vx
open PySem PySem.Spec PyProof.Rows L2
section
variable {α β σ ρ τ : Type}
theorem bind_ok (a : α) (f : α → Rx β) : (Rx.ok a).bind f = f a := rfl
theorem bind_er (e : Nat) (f : α → Rx β) : (Rx.er e : Rx α).bind f = .er e := rfl
theorem grd_pos {p : Prop} {dp : Decidable p} {m : Rx α} (h : p) : grd p m = m := if_pos h
theorem bnd_eq (a : α) (f : α → Rx β) : bnd a f = f a := rfl
theorem noEr_ok (a : α) : noEr (.ok a : Rx α) = .ok a := rfl
theorem tryR_ok {cs : List Nat} (a : α) (f : α → Rx β) (g : Nat → Rx β) : tryR (.ok a) cs f g = f a := rfl
theorem tryR_er {cs : List Nat} {e : Nat} (h : e ∈ cs) (f : α → Rx β) (g : Nat → Rx β) : tryR (.er e) cs f g = g e := if_pos h
theorem aft_go (s : σ) (kr : ρ → Rx τ) (k : σ → Rx τ) : (Lp.go s : Lp σ ρ).aft kr k = k s := rfl
theorem aft_rt (r : ρ) (kr : ρ → Rx τ) (k : σ → Rx τ) : (Lp.rt r : Lp σ ρ).aft kr k = kr r := rfl
/-- gives a value of which P holds -/
def Gv (m : Rx α) (P : α → Prop) : Prop := ∃ v, m = .ok v ∧ P v
theorem Gv.ok {a : α} {P : α → Prop} (h : P a) : Gv (.ok a) P := ⟨a, rfl, h⟩
theorem Gv.of_eq {m : Rx α} {a : α} {P : α → Prop} (e : m = .ok a) (h : P a) : Gv m P := ⟨a, e, h⟩
theorem Gv.bind {m : Rx α} {f : α → Rx β} {P : α → Prop} {Q : β → Prop} (h : Gv m P) (k : ∀ v, P v → Gv (f v) Q) : Gv (m.bind f) Q := by
  obtain ⟨v, rfl, p⟩ := h
  exact k v p
theorem Gv.bind_eq {m : Rx α} {f : α → Rx β} {a : α} {Q : β → Prop} (h : m = .ok a) (k : Gv (f a) Q) : Gv (m.bind f) Q := by
  subst h
  exact k
theorem Gv.grd {p : Prop} {dp : Decidable p} {m : Rx α} {Q : α → Prop} (h : p) (k : Gv m Q) : Gv (Vx.grd p m) Q := by
  rw [grd_pos h]
  exact k
theorem Gv.bnd {a : α} {f : α → Rx β} {Q : β → Prop} (k : ∀ x, x = a → Gv (f x) Q) : Gv (Vx.bnd a f) Q := k a rfl
theorem Gv.ite {p : Prop} {dp : Decidable p} {a b : Rx α} {Q : α → Prop} (h1 : p → Gv a Q) (h2 : ¬ p → Gv b Q) : Gv (if p then a else b) Q := by
  split
  · exact h1 ‹_›
  · exact h2 ‹_›
theorem Gv.pos {p : Prop} {dp : Decidable p} {a b : Rx α} {Q : α → Prop} (h : p) (k : Gv a Q) : Gv (if p then a else b) Q := by rwa [if_pos h]
theorem Gv.neg {p : Prop} {dp : Decidable p} {a b : Rx α} {Q : α → Prop} (h : ¬ p) (k : Gv b Q) : Gv (if p then a else b) Q := by rwa [if_neg h]
theorem Gv.imp {m : Rx α} {P Q : α → Prop} (h : Gv m P) (k : ∀ v, P v → Q v) : Gv m Q := by
  obtain ⟨v, e, p⟩ := h
  exact ⟨v, e, k v p⟩
theorem Gv.noEr {m : Rx α} {P : α → Prop} (h : Gv m P) : Gv (Vx.noEr m) P := by
  obtain ⟨v, rfl, p⟩ := h
  exact ⟨v, rfl, p⟩
theorem Gv.tryOk {m : Rx α} {cs : List Nat} {f : α → Rx β} {g : Nat → Rx β} {P : α → Prop} {Q : β → Prop} (h : Gv m P) (k : ∀ v, P v → Gv (f v) Q) : Gv (tryR m cs f g) Q := by
  obtain ⟨v, rfl, p⟩ := h
  exact k v p
theorem Gv.tryEr {m : Rx α} {cs : List Nat} {e : Nat} {f : α → Rx β} {g : Nat → Rx β} {Q : β → Prop} (h : m = .er e) (hm : e ∈ cs) (k : Gv (g e) Q) : Gv (tryR m cs f g) Q := by
  subst h
  rw [tryR_er hm]
  exact k
theorem Gv.get {m : Rx α} {a : α} (h : Gv m (fun v => v = a)) : m = .ok a := by
  obtain ⟨v, e, rfl⟩ := h
  exact e
theorem Gv.eq {m : Rx α} {P : α → Prop} (h : Gv m P) : ∃ v, m = .ok v ∧ P v := h
/-- a loop that keeps P -/
theorem Gv.forS {P : Nat → σ → Prop} {xs : List α} {s : σ} {f : σ → α → Rx σ} (h0 : P 0 s) (hs : ∀ i x s, xs[i]? = some x → P i s → Gv (f s x) (P (i + 1))) : Gv (Vx.forS xs s f) (P xs.length) := by
  induction xs generalizing s P with
  | nil => exact .ok h0
  | cons x r ih =>
    refine Gv.bind (hs 0 x s rfl h0) fun s' p => ?_
    exact ih (P := fun i => P (i + 1)) p fun i y s hy q => hs (i + 1) y s (by simpa using hy) q
theorem Gv.forR {P : Nat → σ → Prop} {xs : List α} {s : σ} {f : σ → α → Rx (Lp σ ρ)} (h0 : P 0 s) (hs : ∀ i x s, xs[i]? = some x → P i s → Gv (f s x) (fun l => ∃ s', l = .go s' ∧ P (i + 1) s')) : Gv (Vx.forR xs s f) (fun l => ∃ s', l = .go s' ∧ P xs.length s') := by
  induction xs generalizing s P with
  | nil => exact .ok ⟨s, rfl, h0⟩
  | cons x r ih =>
    refine Gv.bind (hs 0 x s rfl h0) ?_
    rintro _ ⟨s', rfl, p⟩
    exact ih (P := fun i => P (i + 1)) p fun i y s hy q => hs (i + 1) y s (by simpa using hy) q
/-- a loop that carries nothing -/
theorem forR_unit {xs : List α} {f : Unit → α → Rx (Lp Unit ρ)} (h : ∀ x ∈ xs, f () x = .ok (.go ())) : Vx.forR xs () f = .ok (.go ()) := by
  induction xs with
  | nil => rfl
  | cons x r ih =>
    show (f () x).bind _ = _
    rw [h x List.mem_cons_self]
    exact ih fun y hy => h y (List.mem_cons_of_mem _ hy)
theorem forS_pure {xs : List α} {s : σ} {f : σ → α → Rx σ} {g : σ → α → σ} (h : ∀ s x, x ∈ xs → f s x = .ok (g s x)) : Vx.forS xs s f = .ok (xs.foldl g s) := by
  induction xs generalizing s with
  | nil => rfl
  | cons x r ih =>
    show (f s x).bind _ = _
    rw [h s x List.mem_cons_self]
    exact ih fun s y hy => h s y (List.mem_cons_of_mem _ hy)
theorem mapA_pure {xs : List α} {acc : List β} {f : α → Rx β} {g : α → β} (h : ∀ x ∈ xs, f x = .ok (g x)) (hl : acc.length + xs.length ≤ 1000000) : mapA xs acc f = .ok (acc ++ xs.map g) := by
  induction xs generalizing acc with
  | nil => simp [mapA]
  | cons x r ih =>
    rw [List.length_cons] at hl
    unfold mapA
    rw [grd_pos (by omega), h x List.mem_cons_self, bind_ok, ih (fun y hy => h y (List.mem_cons_of_mem _ hy)) (by rw [List.length_append, List.length_cons, List.length_nil]; omega)]
    simp
theorem mapA_pure0 {xs : List α} {f : α → Rx β} {g : α → β} (h : ∀ x ∈ xs, f x = .ok (g x)) (hl : xs.length ≤ 1000000) : mapA xs [] f = .ok (xs.map g) := by
  rw [mapA_pure h (by simpa using hl)]
  rfl
theorem mapF_pure {xs : List α} {acc : List β} {f : α → Rx (Option β)} {g : α → Option β} (h : ∀ x ∈ xs, f x = .ok (g x)) (hl : acc.length + xs.length ≤ 1000000) : mapF xs acc f = .ok (acc ++ xs.filterMap g) := by
  induction xs generalizing acc with
  | nil => simp [mapF]
  | cons x r ih =>
    rw [List.length_cons] at hl
    unfold mapF
    rw [grd_pos (by omega), h x List.mem_cons_self, bind_ok]
    cases e : g x with
    | none =>
      show mapF r acc f = _
      rw [ih (fun y hy => h y (List.mem_cons_of_mem _ hy)) (by omega), List.filterMap_cons, e]
    | some z =>
      show mapF r (acc ++ [z]) f = _
      rw [ih (fun y hy => h y (List.mem_cons_of_mem _ hy)) (by rw [List.length_append, List.length_cons, List.length_nil]; omega), List.filterMap_cons, e]
      simp
/-- a while that ends: m falls -/
theorem Gv.whileR {P : σ → Prop} {R : σ → Prop} (m : σ → Nat) {f : σ → Rx (Lp σ ρ)} (hs : ∀ s, P s → Gv (f s) (fun l => (∃ s', l = .go s' ∧ P s' ∧ m s' < m s) ∨ ∃ s', l = .bk s' ∧ R s')) : ∀ {n : Nat} {s : σ}, P s → m s < n → Gv (Vx.whileR n s f) (fun l => ∃ s', l = .go s' ∧ R s') := by
  intro n
  induction n with
  | zero => intro s _ h; exact absurd h (Nat.not_lt_zero _)
  | succ n ih =>
    intro s p h
    refine Gv.bind (hs s p) ?_
    rintro _ (⟨s', rfl, p', l⟩ | ⟨s', rfl, r⟩)
    · exact ih p' (by omega)
    · exact .ok ⟨s', rfl, r⟩
end
/-- a loop that may return -/
theorem Gv.forRR {α σ ρ : Type} {P : Nat → σ → Prop} {Q : ρ → Prop} {xs : List α} {s : σ} {f : σ → α → Rx (Lp σ ρ)} (h0 : P 0 s) (hs : ∀ i x s, xs[i]? = some x → P i s → Gv (f s x) (fun l => (∃ s', l = .go s' ∧ P (i + 1) s') ∨ ∃ r, l = .rt r ∧ Q r)) : Gv (Vx.forR xs s f) (fun l => (∃ s', l = .go s' ∧ P xs.length s') ∨ ∃ r, l = .rt r ∧ Q r) := by
  induction xs generalizing s P with
  | nil => exact .ok (.inl ⟨s, rfl, h0⟩)
  | cons x r ih =>
    refine Gv.bind (hs 0 x s rfl h0) ?_
    rintro _ (⟨s', rfl, p⟩ | ⟨r, rfl, q⟩)
    · exact ih (P := fun i => P (i + 1)) p fun i y s hy q => hs (i + 1) y s (by simpa using hy) q
    · exact .ok (.inr ⟨r, rfl, q⟩)
theorem rng_mem {lo x : Int} {n : Nat} (h : x ∈ rng lo n) : lo ≤ x ∧ x < lo + n := by
  unfold rng at h
  obtain ⟨j, hj, rfl⟩ := List.mem_map.mp h
  have := List.mem_range.mp hj
  omega
theorem rng_at {lo x : Int} {n i : Nat} (h : (rng lo n)[i]? = some x) : x = lo + i ∧ i < n := by
  have hl := get_len h
  rw [rng_len] at hl
  rw [rng_get hl] at h
  exact ⟨(Option.some.inj h).symm, hl⟩
end Vx
/-! # a for loop within a generator def -/
namespace Vy
open PySem PySem.Spec PyProof.Rows L2 GenW
section
variable {M : Model} {A : Around} {R : GenEnd} {Y : Protocol} {n : Nat} {s₀ : Shared} {c : Code} {fs : List Frame} {s : Shared} {env : Env}
  {K : Flow → Sem PySem.Fin} {J : Value → Sem PySem.Fin} {gd : Bool → Bool} {lv : List Value → List Value}
theorem seg_for {tg iter : Expr} {body : List Stmt} {pos : Pos} (hs : ∀ x, foldedSetIterable iter env x = pure x)
    (h : wpAny M (A.over c fs) (eval iter env) (fun x s1 => wpAny M (A.over c fs) (pyIter x) (fun it s2 => ∀ p, Seg M A R Y n s₀ (.forLoop tg it body [] env) (M.den (.forLoop tg it body [] env))
        (.ret (fun r => ((match r with | .ok f => (.pure f : Sem Flow) | .error e => .raise e).onRaise (cameBack env)).wrap K J gd lv) none (gd false) (lv []) c p [] :: fs) s2) (fun x s' => Seg M A R Y n s₀ c (J x) fs s') s1) (fun x s' => Seg M A R Y n s₀ c (J x) fs s') s) :
    Seg M A R Y n s₀ c ((exec (.For tg iter body [] pos) env).wrap K J gd lv) fs s := by
  rw [exec_For, Sem.bind_eq_wrap', Sem.wrap_wrap]
  refine seg_wrap (wpAny_standAt ?_)
  rw [Sem.bind_eq_wrap', Sem.wrap_wrap]
  refine seg_wrap (wpAny_mono h (fun x s1 h1 => ?_) fun _ _ z => z)
  rw [hs x]
  rw [Sem.bind_eq_wrap', Sem.wrap_wrap]
  refine seg_wrap (wpAny_pure ?_)
  rw [Sem.bind_eq_wrap', Sem.wrap_wrap]
  refine seg_wrap (wpAny_standAt ?_)
  rw [Sem.bind_eq_wrap', Sem.wrap_wrap]
  refine seg_wrap (wpAny_holding (wpAny_mono h1 (fun it s2 h2 => ?_) fun _ _ z => z))
  exact seg_call h2
end
section
variable {prog : Program} {w : World} {A : Around} {R : GenEnd} {Y : Protocol} {n : Nat} {s₀ : Shared} {fs : List Frame} {s : Shared} {env : Env}
/-- an exception leaves the loop's code -/
def outE (env : Env) (x : Value) : Sem PySem.Fin := (do noteFrame x env; theTreesLotGoes x : Sem Unit).wrap (fun _ => .raise x) .raise id id
theorem seg_forLoop {tg : Expr} {it : Value} {body : List Stmt}
    (h : wpAny (model prog w) (A.over (.forLoop tg it body [] env) fs) (pyNext it) (fun r s1 => match r with
        | none => Seg (model prog w) A R Y n s₀ (.forLoop tg it body [] env) (.pure (.again (.block [] env))) fs s1
        | some v => wpAny (model prog w) (A.over (.forLoop tg it body [] env) fs) (letOwnedTupleGo tg it v) (fun _ s2 => wpAny (model prog w) (A.over (.forLoop tg it body [] env) fs) (assign tg env v) (fun _ s3 =>
            Seg (model prog w) A R Y n s₀ (.forLoop tg it body [] env) ((execs body env).wrap (fun f => match f with
              | .next | .cont => .pure (.again (.forLoop tg it body [] env))
              | .brk => .pure (.done .next)
              | .ret v => .pure (.done (.ret v))) (outE env) id id) fs s3)
            (fun x s' => Seg (model prog w) A R Y n s₀ (.forLoop tg it body [] env) (outE env x) fs s') s2) (fun x s' => Seg (model prog w) A R Y n s₀ (.forLoop tg it body [] env) (outE env x) fs s') s1)
      (fun x s' => Seg (model prog w) A R Y n s₀ (.forLoop tg it body [] env) (outE env x) fs s') s) :
    Seg (model prog w) A R Y n s₀ (.forLoop tg it body [] env) ((model prog w).den (.forLoop tg it body [] env)) fs s := by
  have eo : ∀ x, ((do noteFrame x env; theTreesLotGoes x : Sem Unit).bind fun _ => (Sem.raise x : Sem PySem.Fin)) = outE env x := fun x => Sem.bind_eq_wrap _ _
  show Seg _ A R Y n s₀ _ ((forTurn tg it body [] env).onRaise (fun x => do noteFrame x env; theTreesLotGoes x)) fs s
  unfold forTurn
  rw [Sem.onRaise_eq_wrap, Sem.bind_eq_wrap', Sem.wrap_wrap]
  refine seg_wrap (wpAny_standAt ?_)
  rw [Sem.bind_eq_wrap', Sem.wrap_wrap]
  refine seg_wrap (wpAny_onRaise (wpAny_mono h (fun r s1 h1 => ?_) fun x s1 h1 => wpAny_standAt ?_))
  · cases r with
    | none => exact h1
    | some v =>
      show Seg _ A R Y n s₀ _ ((letOwnedTupleGo tg it v >>= _).wrap _ _ _ _) fs s1
      rw [Sem.bind_eq_wrap', Sem.wrap_wrap]
      refine seg_wrap (wpAny_mono h1 (fun _ s2 h2 => ?_) fun x s2 h2 => ?_)
      · rw [Sem.bind_eq_wrap', Sem.wrap_wrap]
        refine seg_wrap (wpAny_mono h2 (fun _ s3 h3 => ?_) fun x s3 h3 => ?_)
        · rw [Sem.bind_eq_wrap', Sem.wrap_wrap]
          refine (congrArg (fun t => Seg (model prog w) A R Y n s₀ (.forLoop tg it body [] env) t fs s3) (Sem.wrap_congr (execs body env) _ _ (K' := fun f => match f with
              | .next | .cont => .pure (.again (.forLoop tg it body [] env))
              | .brk => .pure (.done .next)
              | .ret v => .pure (.done (.ret v))) (H' := outE env) (fun f => by cases f <;> rfl) (fun e => eo e))).mpr h3
        · show Seg _ A R Y n s₀ _ (((do noteFrame x env; theTreesLotGoes x : Sem Unit).bind fun _ => (Sem.raise x : Sem PySem.Fin))) fs s3
          rw [eo]; exact h3
      · show Seg _ A R Y n s₀ _ (((do noteFrame x env; theTreesLotGoes x : Sem Unit).bind fun _ => (Sem.raise x : Sem PySem.Fin))) fs s2
        rw [eo]; exact h2
  · show Seg _ A R Y n s₀ _ (((do noteFrame x env; theTreesLotGoes x : Sem Unit).bind fun _ => (Sem.raise x : Sem PySem.Fin))) fs s1
    rw [eo]; exact h1
end
/-- a for within a generator: the loop's wish, with what is out so far -/
def tGFor (wi : TI) (g : TG) (tb : TGn) : TGn := fun D ys σ H => wi σ H fun J H2 => ∃ W : Nat → Nat → List V → L2.St → Hp → Prop, (∃ m, W 0 m ys σ H2) ∧ ∀ i m ys σ H, W i m ys σ H →
  (J.stop i H ∧ D.nx ys σ H) ∨ (J.go i H ∧ ∃ N : List V → L2.St → Hp → Prop, (∀ ys' σ' H', N ys' σ' H' → ∃ m', m' < m ∧ W (i + 1) m' ys' σ' H') ∧ ∀ x H', J.yld i H x H' → g x σ H' fun σ2 H2 => tb { D with nx := N, ct := N, bk := D.nx } ys σ2 H2)
section
variable {X : Cx}
theorem gs_for {tg iter : Expr} {body : List Stmt} {wi : TI} {g : TG} {tb : TGn} {pos : Pos} (hp : PassesOwn (model X.prog X.w) X.A X.env X.xe) (hc : X.calm = true) (hi : PI X tg iter wi) (hg : PG X tg g) (hb : GSs X body tb)
    (hs : ∀ x, foldedSetIterable iter X.env x = pure x := by intro _; rfl) : GS X (.For tg iter body [] pos) (tGFor wi g tb) := by
  refine ⟨fun A S ip R n ys s₀ c fs K J gd lv s σ H D g0 hn k hI ht => ?_⟩
  obtain ⟨acc, cc, r, I⟩ := hI
  have out0 : ∀ (x : Value) (s' : Shared), X.xe x s' → Seg (model X.prog X.w) A R (GY X S) n s₀ c (J x) fs s' := fun x s' hx => k.exc n s₀ x s' hx
  refine seg_for hs ?_
  rw [g0.over]
  refine wpAny_mono (hi.run ((S, lstObj acc cc) :: ip) s σ H _ I ht) (fun v s1 h1 => wpAny_mono h1 (fun itv s2 h2 => ?_) out0) out0
  obtain ⟨it, fp, tn, Jt, H2, e, I2, T, st2, f2, W, ⟨m0, w0⟩, turn⟩ := h2
  subst e
  intro p
  -- the iterator's objects, whatever the consumer's list holds
  have pinsOk : ∀ {acc' : Array Value} {cc' : Nat} {H' : Hp}, (∀ b ∈ fp, H' b = none) → ∀ b ∈ fp, FpOk X ((S, lstObj acc' cc') :: ip) H' b := by
    intro acc' cc' H' hz b hbf
    obtain ⟨_, q1, q2, q3, q4, q5⟩ := f2 b hbf
    refine ⟨hz b hbf, q1, q2, q3, q4, fun q hq => ?_⟩
    rcases List.mem_append.mp hq with z | z
    · exact q5 q (List.mem_append_left _ z)
    · rcases List.mem_cons.mp z with z | z
      · subst z
        exact q5 (S, lstObj acc cc) (List.mem_append_right _ List.mem_cons_self)
      · exact q5 q (List.mem_append_right _ (List.mem_cons_of_mem _ z))
  have notS : ∀ b ∈ fp, b ≠ S := fun b hbf z => (f2 b hbf).2.2.2.2.2 (S, lstObj acc cc) (List.mem_append_right _ List.mem_cons_self) z.symm
  have gl := fun (kk : Result → Sem PySem.Fin) (ip' : List (Addr × Obj)) (h' : ∀ q ∈ ip', q.1 ≠ S) => (gc_loop (k := kk) (c' := .forLoop tg (.ref it) body [] X.env) (l := lv []) (kp := []) (p := p) (⟨g0.pn, h', g0.apart, g0.over, g0.split, g0.guard, g0.gd⟩ : GC X S ip' A c fs gd) rfl rfl)
  have loop : ∀ (m i n : Nat) (ys : List V) (s₀ s : Shared) (σ : L2.St) (H : Hp), n + ys.length = sizeLine → W i m ys σ H → tn i s.heap → (∀ b ∈ fp, H b = none) → GI X S ip ys σ H s →
      Seg (model X.prog X.w) A R (GY X S) n s₀ (.forLoop tg (.ref it) body [] X.env) ((model X.prog X.w).den (.forLoop tg (.ref it) body [] X.env))
        (.ret (fun r => ((match r with | .ok f => (.pure f : Sem Flow) | .error e => .raise e).onRaise (cameBack X.env)).wrap K J gd lv) none (gd false) (lv []) c p [] :: fs) s := by
    intro m
    induction m using Nat.strongRecOn with
    | ind m ih =>
      intro i n ys s₀ s σ H hn w st fr hI
      have ee : ∀ (n : Nat) (s₀ : Shared) (x : Value) (s' : Shared), X.xe x s' → Seg (model X.prog X.w) A R (GY X S) n s₀ (.forLoop tg (.ref it) body [] X.env) (outE X.env x)
          (.ret (fun r => ((match r with | .ok f => (.pure f : Sem Flow) | .error e => .raise e).onRaise (cameBack X.env)).wrap K J gd lv) none (gd false) (lv []) c p [] :: fs) s' := by
        intro n s₀ x s' hx
        refine seg_wrap ?_
        rw [(gl _ ip g0.ip).over]
        refine wpAny_bind (wpAny_mono (hp x s' hx) (fun _ s2 hcb => wpAny_theTreesLotGoes ?_) fun y s2 hcb => ?_)
        · exact seg_leaf (.error x) (seg_cameBack g0 k hcb)
        · exact seg_leaf (.error y) (seg_cameBack g0 k hcb)
      obtain ⟨acc, cc, r, I⟩ := hI
      refine seg_forLoop ?_
      rw [(gl _ ip g0.ip).over]
      rcases turn i m ys σ H w with ⟨stop, qn⟩ | ⟨go, N, hN, step⟩
      · refine wpAny_mono (T.done X rfl rfl rfl hc i _ s σ H X.xe I (pinsOk fr) st stop) (fun r' s4 hq => ?_) fun x s' hx => ee n s₀ x s' hx
        obtain ⟨hr, I4⟩ := hq
        subst hr
        refine seg_again rfl ?_
        show Seg _ _ _ _ _ _ _ (leafOf (.ok .next)) _ _
        exact seg_leaf (.ok .next) (k.ok n ys s₀ s4 .next hn ⟨σ, H, ⟨acc, cc, r, I4⟩, qn⟩)
      · refine wpAny_mono (T.item X rfl rfl rfl hc i _ s σ H X.xe I (pinsOk fr) st go) (fun r' s4 hq => ?_) fun x s' hx => ee n s₀ x s' hx
        obtain ⟨u, hr, h4⟩ := hq
        subst hr
        refine wpAny_mono h4 (fun _ s5 hq5 => ?_) fun x s' hx => ee n s₀ x s' hx
        obtain ⟨x, H5, I5, r5, y5, st5, fr5⟩ := hq5
        have I5' := I5.pinned (pinsOk fr5) (T.obj _ _ st5)
        refine wpAny_mono (hg.run _ s5 σ H5 x u _ I5' r5 (step x H5 y5)) (fun _ s6 hq6 => ?_) fun x s' hx => ee n s₀ x s' hx
        obtain ⟨σ6, H6, I6, q6⟩ := hq6
        have ip2 : ∀ q ∈ ip ++ pinsAt fp s5.heap, q.1 ≠ S := fun q hq => by
          rcases List.mem_append.mp hq with z | z
          · exact g0.ip q z
          · exact notS _ (of_pinsAt z).1
        have again : ∀ {ys' : List V} {σ7 : L2.St} {H7 : Hp} {s7 : Shared} {n' : Nat} {s₀' : Shared}, n' + ys'.length = sizeLine → GI X S (ip ++ pinsAt fp s5.heap) ys' σ7 H7 s7 → N ys' σ7 H7 →
            Seg (model X.prog X.w) A R (GY X S) n' s₀' (.forLoop tg (.ref it) body [] X.env) (.pure (.again (.forLoop tg (.ref it) body [] X.env)))
              (.ret (fun r => ((match r with | .ok f => (.pure f : Sem Flow) | .error e => .raise e).onRaise (cameBack X.env)).wrap K J gd lv) none (gd false) (lv []) c p [] :: fs) s7 := by
          intro ys' σ7 H7 s7 n' s₀' hn' hI7 n7
          obtain ⟨m', hm, w7⟩ := hN ys' σ7 H7 n7
          obtain ⟨acc7, cc7, r7, I7⟩ := hI7
          have look : ∀ b ∈ fp, ∀ o, s5.heap.get? b = some o → s7.heap.get? b = some o ∧ H7 b = none := fun b hbf o eo => by
            have q := I7.pin (b, o) (List.mem_append_right _ (List.mem_cons_of_mem _ (List.mem_append_right _ (mem_pinsAt hbf eo))))
            exact ⟨q.1, q.2.1⟩
          refine seg_again rfl (ih m' hm (i + 1) n' ys' s₀' s7 σ7 H7 hn' w7 (T.keep _ _ _ st5 fun b hbf o eo => (look b hbf o eo).1) (fun b hbf => ?_) ⟨acc7, cc7, r7, ?_⟩)
          · obtain ⟨o, eo, _⟩ := T.obj _ _ st5 b hbf
            exact (look b hbf o eo).2
          · exact I7.pins_of fun q hq => I7.pin q (by
              rcases List.mem_cons.mp hq with z | z
              · exact List.mem_append_right _ (z ▸ List.mem_cons_self)
              · exact List.mem_append_right _ (List.mem_cons_of_mem _ (List.mem_append_left _ z)))
        have shrink : ∀ {ys' : List V} {σ7 : L2.St} {H7 : Hp} {s7 : Shared}, GI X S (ip ++ pinsAt fp s5.heap) ys' σ7 H7 s7 → GI X S ip ys' σ7 H7 s7 := by
          intro ys' σ7 H7 s7 hI7
          obtain ⟨acc7, cc7, r7, I7⟩ := hI7
          exact ⟨acc7, cc7, r7, I7.pins_of fun q hq => I7.pin q (by
              rcases List.mem_cons.mp hq with z | z
              · exact List.mem_append_right _ (z ▸ List.mem_cons_self)
              · exact List.mem_append_right _ (List.mem_cons_of_mem _ (List.mem_append_left _ z)))⟩
        refine hb.run A S (ip ++ pinsAt fp s5.heap) R n ys s₀ _ _ _ _ id id s6 σ6 H6 { D with nx := N, ct := N, bk := D.nx } (gl _ _ ip2) hn ⟨fun n' ys' s₀' s7 f hn' hs7 => ?_, fun n' s₀' x s7 hx => ee n' s₀' x s7 hx⟩ ⟨acc, cc, r, I6⟩ q6
        cases f with
        | next =>
          obtain ⟨σ7, H7, I7, n7⟩ := hs7
          exact again hn' I7 n7
        | cont =>
          obtain ⟨σ7, H7, I7, n7⟩ := hs7
          exact again hn' I7 n7
        | brk =>
          obtain ⟨σ7, H7, I7, q7⟩ := hs7
          exact seg_leaf (.ok .next) (k.ok n' ys' s₀' s7 .next hn' ⟨σ7, H7, shrink I7, q7⟩)
        | ret v =>
          obtain ⟨v7, σ7, H7, I7, rv, q7⟩ := hs7
          exact seg_leaf (.ok (.ret v)) (k.ok n' ys' s₀' s7 (.ret v) hn' ⟨v7, σ7, H7, shrink I7, rv, q7⟩)
  exact loop m0 0 n ys s₀ s2 σ H2 hn w0 st2 (fun b hbf => (f2 b hbf).1) ⟨acc, cc, r, I2⟩
end
/-! ### the turns of such a loop -/
section
variable {J : It} {n : Nat} {GG : Hp → Prop} {YY : Nat → Hp → V → Hp → Prop} {g : TG} {tb : TGn} {D : GEnds} {ys : List V} {σ : L2.St} {H : Hp}
theorem forG_it (w : Walk J n GG YY) (Pv : Nat → List V → L2.St → Hp → Prop) (h0 : Pv 0 ys σ H) (hG : ∀ i ys σ H, i ≤ n → Pv i ys σ H → GG H)
    (hs : ∀ i x ys σ H H', i < n → Pv i ys σ H → YY i H x H' → g x σ H' fun σ2 H2 => tb { D with nx := Pv (i + 1), ct := Pv (i + 1), bk := D.nx } ys σ2 H2) (hd : ∀ ys σ H, Pv n ys σ H → D.nx ys σ H) :
    ∃ W : Nat → Nat → List V → L2.St → Hp → Prop, (∃ m, W 0 m ys σ H) ∧ ∀ i m ys σ H, W i m ys σ H →
      (J.stop i H ∧ D.nx ys σ H) ∨ (J.go i H ∧ ∃ N : List V → L2.St → Hp → Prop, (∀ ys' σ' H', N ys' σ' H' → ∃ m', m' < m ∧ W (i + 1) m' ys' σ' H') ∧ ∀ x H', J.yld i H x H' → g x σ H' fun σ2 H2 => tb { D with nx := N, ct := N, bk := D.nx } ys σ2 H2) := by
  refine ⟨fun i m ys σ H => m = n - i ∧ i ≤ n ∧ Pv i ys σ H, ⟨n, rfl, Nat.zero_le n, h0⟩, fun i m ys σ H hw => ?_⟩
  obtain ⟨em, hi, p⟩ := hw
  subst em
  have q := hG i ys σ H hi p
  rcases Nat.lt_or_ge i n with lt | ge
  · refine .inr ⟨w.goes i H lt q, Pv (i + 1), fun ys' σ' H' p' => ⟨n - (i + 1), by omega, rfl, lt, p'⟩, fun x H' y => hs i x ys σ H H' lt p (w.yields i H x H' lt q y)⟩
  · cases Nat.le_antisymm hi ge
    exact .inl ⟨w.stops H q, hd ys σ H p⟩
/-- zip of two lists of any lengths -/
theorem forG_zipM {K : PySem.W.Frag} {a b : Addr} {xs zs : List V} (n : Nat) (hn : n = min xs.length zs.length) (Pv : Nat → List V → L2.St → Hp → Prop) (h0 : Pv 0 ys σ H) (hq : ∀ i ys σ H, Pv i ys σ H → SqL K H a xs ∧ SqL K H b zs)
    (hs : ∀ (i : Nat) (x z : V) (T : Addr) (ys : List V) (σ : L2.St) (H : Hp), xs[i]? = some x → zs[i]? = some z → H T = none → Pv i ys σ H → g (.ref T) σ (upd H T (.tup [x, z])) fun σ2 H2 => tb { D with nx := Pv (i + 1), ct := Pv (i + 1), bk := D.nx } ys σ2 H2) (hd : ∀ ys σ H, Pv n ys σ H → D.nx ys σ H) :
    ∃ W : Nat → Nat → List V → L2.St → Hp → Prop, (∃ m, W 0 m ys σ H) ∧ ∀ i m ys σ H, W i m ys σ H →
      ((Itz K a b).stop i H ∧ D.nx ys σ H) ∨ ((Itz K a b).go i H ∧ ∃ N : List V → L2.St → Hp → Prop, (∀ ys' σ' H', N ys' σ' H' → ∃ m', m' < m ∧ W (i + 1) m' ys' σ' H') ∧ ∀ x H', (Itz K a b).yld i H x H' → g x σ H' fun σ2 H2 => tb { D with nx := N, ct := N, bk := D.nx } ys σ2 H2) := by
  refine forG_it (walk_zip hn) Pv h0 (fun i ys σ H _ p => hq i ys σ H p) (fun i v ys σ H H' hi p y => ?_) hd
  obtain ⟨T, x, z, rfl, hT, rfl, h1, h2⟩ := y
  exact hs i x z T ys σ H h1 h2 hT p
theorem forG_list {K : PySem.W.Frag} {a : Addr} {xs : List V} (Pv : Nat → List V → L2.St → Hp → Prop) (h0 : Pv 0 ys σ H) (hq : ∀ i ys σ H, Pv i ys σ H → SqL K H a xs)
    (hs : ∀ (i : Nat) (x : V) (ys : List V) (σ : L2.St) (H : Hp), xs[i]? = some x → Pv i ys σ H → g x σ H fun σ2 H2 => tb { D with nx := Pv (i + 1), ct := Pv (i + 1), bk := D.nx } ys σ2 H2) (hd : ∀ ys σ H, Pv xs.length ys σ H → D.nx ys σ H) :
    ∃ W : Nat → Nat → List V → L2.St → Hp → Prop, (∃ m, W 0 m ys σ H) ∧ ∀ i m ys σ H, W i m ys σ H →
      ((Itl K a).stop i H ∧ D.nx ys σ H) ∨ ((Itl K a).go i H ∧ ∃ N : List V → L2.St → Hp → Prop, (∀ ys' σ' H', N ys' σ' H' → ∃ m', m' < m ∧ W (i + 1) m' ys' σ' H') ∧ ∀ x H', (Itl K a).yld i H x H' → g x σ H' fun σ2 H2 => tb { D with nx := N, ct := N, bk := D.nx } ys σ2 H2) := by
  refine forG_it walk_list Pv h0 (fun i ys σ H _ p => hq i ys σ H p) (fun i v ys σ H H' hi p y => ?_) hd
  obtain ⟨rfl, hx⟩ := y
  exact hs i v ys σ _ hx p
end
/-! ### generator defs of the top, and list(f(..)) of one -/
structure CalG (P : Program) (w : World) (K : PySem.W.Frag) (mg : Str → Option Value) (base : Heap) (k : Nat) (x : Str) (sg : SpG) (pats : List Vx.Pat) : Prop where
  ex : ∃ (f : Addr) (fd : FuncData) (ps : List Str), GFn P w K mg base k f fd ps sg ∧ mg x = some (.ref f) ∧ PySem.W.keepIn K (.ref f) = true ∧ ∀ p ∈ pats, Vx.Bnd1 K fd ps p
theorem okG {P : Program} {w : World} {K : PySem.W.Frag} {mg : Str → Option Value} {base : Heap} {x : Str} {st : Stmt} {N ps : List Str} {pats : List Vx.Pat} {k : Nat} {sg : SpG} (D : Vx.DefX K mg x st ps pats) (S : GScope N ps (defScope st)) (len : ∀ vs H Q E, sg vs H Q E → vs.length = ps.length)
    (hbody : ∀ (f : Addr) (cdv : Value) (A : Around) (outer : List Env) (s : Shared) (H : Hp) (vs : List V) (Q : List V → Hp → Prop) (E : XK) (pn : List (Addr × Obj)), Room k (A.deeper (envOfC x (defScope st) s.heap.objs.size f cdv)) → sg vs H Q E →
      ∃ t, GSs (gcxOf P w K mg base N x (defScope st) f cdv A outer s H E pn) (defBody st) t ∧ t { nx := fun ys _ H' => Q ys H', rt := fun ys v H' => v = .non ∧ Q ys H' } [] (start N vs) H) : CalG P w K mg base (k + 1) x sg pats := by
  obtain ⟨f, fd, dvs, kws, F, hm, b⟩ := D.ex
  have kp := F.kp
  obtain ⟨oc, od, dV, kV, doc, pm, an, cdv, ct, osl, rfl, lk, code, _, _⟩ := F.ex
  exact ⟨f, _, ps, gfn_of lk code S len (fun A outer s H vs Q E pn hr h => hbody f cdv A outer s H vs Q E pn hr h), hm, kp, b⟩
def tCallGX (n m : Nat) (sg : SpG) (g : List V → List V → List V) (t tk : TA) : TGen := fun σ H cont => t σ H fun vs H1 => tk σ H1 fun zs H2 => vs.length = n ∧ zs.length = m ∧ sg (g vs zs) H2 cont (fun _ _ _ => False)
section
variable {X : Cx} {k j : Nat} {sg : SpG} {x : Str} {pos p : Pos} {e : Expr} {es : List Expr} {kws : List Keyword} {t tk : TA}
theorem pgenX {pats : List Vx.Pat} (c : CalG X.prog X.w X.K X.mg X.base k x sg pats) (pt : Vx.Pat) (hpt : pt ∈ pats) (hr : Room k X.A) (hg : Gl X x) (ha : PA X (e :: es) t) (hkw : PK X kws tk)
    (hall : (backToKw pos (keywordEach kws X.env)).all (·.1.isSome) = true := by rfl) (hks : (backToKw pos (keywordEach kws X.env)).filterMap (·.1) = pt.2.1 := by rfl)
    (hdb : (x == ("__debug__" : Str)) = false := by decide) (he : starEach (e :: es) X.env = (false, eval e X.env) :: starEach es X.env := by rfl)
    (hpl : ((backTo pos (starEach (e :: es) X.env)).any (·.1) || (backToKw pos (keywordEach kws X.env)).any (·.1.isNone)) = false := by rfl) :
    PGen X k (.Call (.Name x p) (e :: es) kws pos) (tCallGX pt.1 pt.2.1.length sg pt.2.2 t tk) (fun _ _ _ => False) := by
  obtain ⟨f, fd, ps, F, hm, kp, b⟩ := c.ex
  refine ⟨fun pins s σ H cont I h => ?_⟩
  refine wpAny_Call_Name_kw (ld_glob I hg hm ?_ hdb)
  refine PySem.W.callWith_KW (h₀ := X.base) I.ok.mod.kin kp hall (thn (ha.run pos pins s σ H _ I h) fun us s1 ⟨vs, H1, I1, r, q⟩ => ?_) hpl he
  refine thn (hkw.run pos pins s1 σ H1 _ I1 q) fun ws s2 ⟨zs, H2, I2, rz, l1, l2, q2⟩ => ⟨I2.kIn, ?_⟩
  rw [hks]
  obtain ⟨vv, bb, r2⟩ := (b pt hpt).to s2 us ws vs zs I2.kIn l1 l2 r rz
  refine wpAny_call (codeAny_mono (F.run X.A X.stack s2 H2 ⟨us, pt.2.1.zip ws⟩ vv (pt.2.2 vs zs) cont _ hr I2.env0 bb r2 q2) fun rr s' hq => ?_)
  cases rr with
  | error er => exact hq.elim
  | ok fl =>
    cases fl with
    | ret u => exact ⟨H2, s2, [], I2, .nil, hq⟩
    | next => exact hq.elim
    | brk => exact hq.elim
    | cont => exact hq.elim
theorem vx_listG {tg : TGen} {a : Expr} {lp : Pos} (h : PGen X k a tg (fun _ _ _ => False)) (hr : Room j X.A) (hk : k + 3 ≤ j) (hg : Gl X "list") (hm : X.mg "list" = none)
    (he : starEach [a] X.env = (false, eval a X.env) :: starEach [] X.env := by rfl) : PE X (.Call (.Name "list" lp) [a] [] pos) (tListG tg) := by
  refine pe_listG h (fun pins σ H s u s' I hc => ?_) (fun _ _ _ z => z.elim) (hr.mono hk) hg hm (by decide +kernel) (he := he)
  obtain ⟨_, _, _, _, _, _, _, _, _, _, _, _, z⟩ := hc
  exact z.elim
end
/-! ### list(f(..)) of a generator def, told as a def that makes a list -/
theorem gen_top {α : Type} {f : α → PyData} {H G : Hp} {Q : VK} {v : List α}
    (h : ∀ p vs H' G', H p = none → Same H H' → Same G G' → Same G' H' → (∀ b, H b ≠ none → G b = none → G' b = none) → G' p = none → H' p = some (.lst vs) → Vx.RpAll G' vs (v.map f) → Q (.ref p) H') :
    ∀ ys H' G', Same H H' → Same G G' → Same G' H' → (∀ b, H b ≠ none → G b = none → G' b = none) → Vx.RpAll G' ys (v.map f) → ∀ p, H' p = none → Q (.ref p) (upd H' p (.lst ys)) := by
  intro ys H' G' s1 s2 s3 hid d p hp
  have none1 : ∀ {A : Hp}, Same A H' → A p = none := fun {A} sA => by
    cases e : A p with
    | none => rfl
    | some o => rw [sA p o e] at hp; cases hp
  have grow : ∀ {A : Hp}, Same A H' → Same A (upd H' p (.lst ys)) := fun {A} sA b o e => by
    have hb : b ≠ p := fun z => by rw [z, none1 sA] at e; cases e
    show (if b = p then _ else _) = _
    rw [if_neg hb]
    exact sA b o e
  exact h p ys _ G' (none1 s1) (grow s1) s2 (grow s3) hid (none1 s3) (if_pos rfl) d
theorem vx_lg {X : Cx} {k j : Nat} {sg : SpG} {sp : Sp} {x : Str} {pos p pos2 p2 : Pos} {e : Expr} {es : List Expr} {kws : List Keyword} {t tk : TA} {W : WX} {pats : List Vx.Pat} (c : CalG X.prog X.w X.K X.mg X.base k x sg pats)
    (im : ∀ (vs : List V) (H : Hp) (Q : VK) (E E2 : XK), sp vs H Q E → sg vs H (fun out H2 => ∀ p, H2 p = none → Q (.ref p) (upd H2 p (.lst out))) E2) (pt : Vx.Pat) (hpt : pt ∈ pats) (hr : Vx.RoomG j X.A) (hk : k + 3 ≤ j) (tkW : Takes X W) (hg : Gl X x) (hgl : Gl X "list") (hml : X.mg "list" = none) (ha : PA X (e :: es) t) (hkw : PK X kws tk)
    (hall : (backToKw pos2 (keywordEach kws X.env)).all (·.1.isSome) = true := by rfl) (hks : (backToKw pos2 (keywordEach kws X.env)).filterMap (·.1) = pt.2.1 := by rfl)
    (hdb : (x == ("__debug__" : Str)) = false := by decide) (he : starEach (e :: es) X.env = (false, eval e X.env) :: starEach es X.env := by rfl)
    (hpl : ((backTo pos2 (starEach (e :: es) X.env)).any (·.1) || (backToKw pos2 (keywordEach kws X.env)).any (·.1.isNone)) = false := by rfl)
    (he2 : starEach [.Call (.Name x p2) (e :: es) kws pos2] X.env = (false, eval (.Call (.Name x p2) (e :: es) kws pos2) X.env) :: starEach [] X.env := by rfl) :
    PE X (.Call (.Name "list" p) [.Call (.Name x p2) (e :: es) kws pos2] [] pos) (Vx.tCallX pt.1 pt.2.1.length sp pt.2.2 W t tk) := by
  have pg : PGen X k (.Call (.Name x p2) (e :: es) kws pos2) (fun σ H cont => ∃ Q : VK, cont = (fun out H2 => ∀ a, H2 a = none → Q (.ref a) (upd H2 a (.lst out))) ∧ Vx.tCallX pt.1 pt.2.1.length sp pt.2.2 W t tk σ H Q) (fun _ _ _ => False) := by
    obtain ⟨f, fd, ps, F, hm, kp, b⟩ := c.ex
    refine ⟨fun pins s σ H cont I h => ?_⟩
    obtain ⟨Q, rfl, h⟩ := h
    refine wpAny_Call_Name_kw (ld_glob I hg hm ?_ hdb)
    refine PySem.W.callWith_KW (h₀ := X.base) I.ok.mod.kin kp hall (thn (ha.run pos2 pins s σ H _ I h) fun us s1 ⟨vs, H1, I1, r, q⟩ => ?_) hpl he
    refine thn (hkw.run pos2 pins s1 σ H1 _ I1 q) fun ws s2 ⟨zs, H2, I2, rz, l1, l2, q2⟩ => ⟨I2.kIn, ?_⟩
    rw [hks]
    obtain ⟨vv, bb, r2⟩ := (b pt hpt).to s2 us ws vs zs I2.kIn l1 l2 r rz
    refine wpAny_call (codeAny_mono (F.run X.A X.stack s2 H2 ⟨us, pt.2.1.zip ws⟩ vv (pt.2.2 vs zs) _ _ (hr.toRoom.mono (by omega)) I2.env0 bb r2 (im _ _ _ _ (fun _ _ _ => False) q2)) fun rr s' hq => ?_)
    cases rr with
    | error er => exact hq.elim
    | ok fl =>
      cases fl with
      | ret u => exact ⟨H2, s2, [], I2, .nil, hq⟩
      | next => exact hq.elim
      | brk => exact hq.elim
      | cont => exact hq.elim
  have key := vx_listG (j := j) (k := k) (pos := pos) (lp := p) pg hr.toRoom hk hgl hml he2
  exact ⟨fun pins s σ H Q I h => key.run pins s σ H Q I ⟨Q, rfl, h⟩⟩
theorem cW_imp {α : Type} {m : Vx.Rx α} {K K' : α → Prop} {E E' : Nat → Prop} (h : Vx.cW m K E) (k : ∀ v, K v → K' v) (e : ∀ v, E v → E' v) : Vx.cW m K' E' := by
  unfold Vx.cW at h ⊢
  cases m with
  | ok a => exact k a h
  | er n => exact e n h
  | bad => exact h
end Vy
namespace Vx
open PySem PySem.Spec PyProof.Rows L2
def F__law_draws_b1 (free_15 : Bool) (found_33 : (List Int)) (rest_34 : Int) (state_35 : Int) (it38 : Int) : Rx ((List Int) × Int × Int) :=
  (if free_15 = true then (if 1 < rest_34 then grd (0 < (it38 : Int)) <| grd ((found_33).length ≤ 1000000) <| bnd ((found_33) ++ [(rest_34 % it38)]) fun y49 => grd (0 < (it38 : Int) ∧ (it38 : Int) < 2 ^ 128) <| bnd ((rest_34 / it38)) fun rest_51 => .ok ((y49), (rest_51), (state_35)) else bnd ((((state_35 * 48271) + 11) % 2147483647)) fun state_52 => bnd ((((state_52 * 69621) + 7) % 2147483647)) fun state_53 => grd (0 < (it38 : Int)) <| grd ((found_33).length ≤ 1000000) <| bnd ((found_33) ++ [((state_53 / 13) % it38)]) fun y62 => .ok ((y62), (rest_34), (state_53))) else bnd ((((state_35 * 48271) + 11) % 2147483647)) fun state_63 => bnd ((((state_63 * 69621) + 7) % 2147483647)) fun state_64 => grd (0 < (it38 : Int)) <| grd ((found_33).length ≤ 1000000) <| bnd ((found_33) ++ [((state_64 / 13) % it38)]) fun y73 => .ok ((y73), (rest_34), (state_64)))

def F__law_draws_r1 (found_79 : (List Int)) (rest_80 : Int) (state_81 : Int) : Rx (List Int) :=
  .ok (found_79)

def F__law_draws (cell' : Int) (limits' : (List Int)) : Rx (List Int) :=
  bnd ((if cell' < 0 then -cell' else cell')) fun rest_10 => bnd ((rest_10 % 2147483647)) fun state_11 => bnd ((decide (cell' < 0) || decide (((10 : Int) ^ Int.toNat 18) ≤ cell'))) fun free_14 => Rx.bind (forS (limits') ((([] : (List Int))), (rest_10), (state_11)) (fun s x => F__law_draws_b1 (free_14) (s.1) (s.2.1) (s.2.2) x)) fun s => F__law_draws_r1  (s.1) (s.2.1) (s.2.2)

def F__law_cell (script' : (List Int)) (k' : Int) : Rx Int :=
  (if k' < (((script') : (List Int)).length : Int) then grd (-((script' : (List Int)).length : Int) ≤ k' ∧ k' < ((script' : (List Int)).length : Int)) <| .ok ((itD (script') (k'))) else .ok (0))

def F__law_some_c2 (it163 : Int) : Rx Int :=
  .ok ((it163 % 4))

def F__law_some_c4 (it240 : Int) : Rx Int :=
  grd (-(([0, 0, 0, 0, 0, 1, 3, it240] : (List Int)).length : Int) ≤ (it240 % 8) ∧ (it240 % 8) < (([0, 0, 0, 0, 0, 1, 3, it240] : (List Int)).length : Int)) <| .ok ((itD ([0, 0, 0, 0, 0, 1, 3, it240]) ((it240 % 8))))

def F__law_some_c6 (it327 : Int) : Rx Int :=
  grd (-(([0, 0, 1, 128, (1 + ((it327 / 8) % 6)), 3, it327, 0] : (List Int)).length : Int) ≤ (it327 % 8) ∧ (it327 % 8) < (([0, 0, 1, 128, (1 + ((it327 / 8) % 6)), 3, it327, 0] : (List Int)).length : Int)) <| .ok ((itD ([0, 0, 1, 128, (1 + ((it327 / 8) % 6)), 3, it327, 0]) ((it327 % 8))))

def F__law_some_k5 (octets_278 : (List Int)) : Rx (List Int) :=
  .ok (octets_278)

def F__law_some_k3 (kind_190 : Int) (octets_191 : (List Int)) : Rx (List Int) :=
  Rx.bind (((if (kind_190 : Int) = 3 then Rx.bind (mapA (octets_191) [] (fun x => noEr (F__law_some_c6  x))) fun v284 => .ok (v284) else .ok (octets_191)) : Rx ((List Int)))) fun s => F__law_some_k5  s

def F__law_some_k1 (kind_113 : Int) (octets_114 : (List Int)) : Rx (List Int) :=
  Rx.bind (((if (kind_113 : Int) = 2 then Rx.bind (mapA (octets_114) [] (fun x => noEr (F__law_some_c4  x))) fun v197 => .ok (v197) else .ok (octets_114)) : Rx ((List Int)))) fun s => F__law_some_k3 (kind_113) s

def F__law_some (cell' : Int) (size' : Int) : Rx (List Int) :=
  bnd ((cell' % 4)) fun kind_84 => grd (-(2 ^ 63) ≤ (size' : Int) ∧ (size' : Int) < 2 ^ 63 ∧ ([256]).length * Int.toNat (size') ≤ 1000000) <| Rx.bind (F__law_draws ((cell' / 4)) (repL ([256]) (size'))) fun v104 => Rx.bind (((if (kind_84 : Int) = 1 then Rx.bind (mapA (v104) [] (fun x => noEr (F__law_some_c2  x))) fun v120 => .ok (v120) else .ok (v104)) : Rx ((List Int)))) fun s => F__law_some_k1 (kind_84) s

def F__law_units_b1 (script_376 : (List Int)) (units_391 : (List (Int × (List Int)))) (it394 : Int) : Rx ((List (Int × (List Int)))) :=
  Rx.bind (F__law_cell (script_376) ((2 * it394))) fun v395 => Rx.bind (F__law_draws v395 ([31, 31])) fun v405 => grd (-((v405 : (List Int)).length : Int) ≤ 0 ∧ 0 < ((v405 : (List Int)).length : Int)) <| Rx.bind (F__law_cell (script_376) (((2 * it394) + 1))) fun v416 => grd (-((v405 : (List Int)).length : Int) ≤ 1 ∧ 1 < ((v405 : (List Int)).length : Int)) <| Rx.bind (F__law_some v416 ((itD (v405) (1)))) fun v418 => grd ((units_391).length ≤ 1000000) <| bnd ((units_391) ++ [((1 + (itD (v405) (0))), v418)]) fun y453 => .ok (y453)

def F__law_units_k2 (units_461 : (List (Int × (List Int)))) : Rx (List (Int × (List Int))) :=
  .ok (units_461)

def F__law_units_r1 (script_377 : (List Int)) (units_460 : (List (Int × (List Int)))) : Rx (List (Int × (List Int))) :=
  Rx.bind (((if 1 < (((units_460) : (List (Int × (List Int)))).length : Int) then Rx.bind (F__law_cell (script_377) 40) fun v467 => (if ((v467 % 8) : Int) = 3 then grd (-((units_460 : (List (Int × (List Int)))).length : Int) ≤ 1 ∧ 1 < ((units_460 : (List (Int × (List Int)))).length : Int)) <| grd (-((units_460 : (List (Int × (List Int)))).length : Int) ≤ 1 ∧ 1 < ((units_460 : (List (Int × (List Int)))).length : Int)) <| grd (((itD (units_460) (1)).2).length + ([0, 0, 1]).length ≤ 1000000) <| grd (-(2 ^ 63) ≤ (1000 : Int) ∧ (1000 : Int) < 2 ^ 63 ∧ (cutL (((itD (units_460) (1)).2) ++ ([0, 0, 1])) none (some (3))).length * Int.toNat (1000) ≤ 1000000) <| grd (-((units_460).length : Int) ≤ 1 ∧ 1 < ((units_460).length : Int)) <| bnd (setL (units_460) (1) (((itD (units_460) (1)).1, repL (cutL (((itD (units_460) (1)).2) ++ ([0, 0, 1])) none (some (3))) (1000)))) fun y557 => .ok (y557) else .ok (units_460)) else .ok (units_460)) : Rx ((List (Int × (List Int)))))) fun s => F__law_units_k2  s

def F__law_units (script' : (List Int)) : Rx (List (Int × (List Int))) :=
  grd (-(2 ^ 62) ≤ (if ((((script') : (List Int)).length : Int) / 2) < 20 then ((((script') : (List Int)).length : Int) / 2) else 20) ∧ (if ((((script') : (List Int)).length : Int) / 2) < 20 then ((((script') : (List Int)).length : Int) / 2) else 20) < 2 ^ 62) <| Rx.bind (forS (rng (0) (Int.toNat ((if ((((script') : (List Int)).length : Int) / 2) < 20 then ((((script') : (List Int)).length : Int) / 2) else 20)))) (([] : (List (Int × (List Int))))) (fun s x => F__law_units_b1 (script') s x)) fun s => F__law_units_r1 (script') s

def F_escape_k2 (octet_594 : Int) (escaped_595 : (List Int)) (zeros_596 : Int) : Rx ((List Int) × Int) :=
  grd ((escaped_595).length ≤ 1000000) <| bnd ((escaped_595) ++ [octet_594]) fun y623 => bnd ((if (octet_594 : Int) = 0 then (zeros_596 + 1) else 0)) fun zeros_627 => .ok ((y623), (zeros_627))

def F_escape_b1 (escaped_589 : (List Int)) (zeros_590 : Int) (it593 : Int) : Rx ((List Int) × Int) :=
  Rx.bind (((if (zeros_590 : Int) = 2 then (if it593 ≤ 3 then grd ((escaped_589).length ≤ 1000000) <| bnd ((escaped_589) ++ [3]) fun y610 => .ok ((y610), (0)) else .ok ((escaped_589), (zeros_590))) else .ok ((escaped_589), (zeros_590))) : Rx ((List Int) × Int))) fun s => F_escape_k2 (it593) (s.1) (s.2)

def F_escape_r1 (escaped_633 : (List Int)) (zeros_634 : Int) : Rx (List Int) :=
  .ok (escaped_633)

def F_escape (octets' : (List Int)) : Rx (List Int) :=
  Rx.bind (forS (octets') ((([] : (List Int))), (0)) (fun s x => F_escape_b1  (s.1) (s.2) x)) fun s => F_escape_r1  (s.1) (s.2)

def F_write_unit (kind' : Int) (payload' : (List Int)) : Rx (List Int) :=
  (if 1 ≤ kind' then (if kind' ≤ 31 then (if 65536 < (((payload') : (List Int)).length : Int) then .er 1 else grd ((payload').length + ([128]).length ≤ 1000000) <| Rx.bind (F_escape ((payload') ++ ([128]))) fun v666 => grd (([0, 0, 1, kind']).length + (v666).length ≤ 1000000) <| .ok (([0, 0, 1, kind']) ++ (v666))) else .er 1) else .er 1)

def F_write_units_b1 (stream_724 : (List Int)) (it727 : (Int × (List Int))) : Rx ((List Int)) :=
  Rx.bind (F_write_unit it727.1 (it727.2)) fun v728 => grd ((stream_724).length + (v728).length ≤ 1000000) <| bnd ((stream_724) ++ (v728)) fun y745 => .ok (y745)

def F_write_units_r1 (stream_751 : (List Int)) : Rx (List Int) :=
  .ok (stream_751)

def F_write_units (units' : (List (Int × (List Int)))) : Rx (List Int) :=
  Rx.bind (forS (units') (([] : (List Int))) (fun s x => F_write_units_b1  s x)) fun s => F_write_units_r1  s

def F__law_refused_k2 (payload_796 : (List Int)) (before_797 : (List Int)) (count_798 : Int) : Rx Bool :=
  (if decide ((count_798 : Int) = 2) = true then .ok (decide ((payload_796 : (List Int)) = before_797)) else .ok (false))

def F__law_refused_k1 (kind_765 : Int) (payload_766 : (List Int)) (units_767 : (List (Int × (List Int)))) (before_768 : (List Int)) (count_769 : Int) : Rx Bool :=
  Rx.bind ((grd ((units_767 : (List (Int × (List Int)))).length + ([(kind_765, payload_766)] : (List (Int × (List Int)))).length ≤ 1000000) <| grd (((units_767) ++ ([(kind_765, payload_766)]) : (List (Int × (List Int)))).length + (units_767 : (List (Int × (List Int)))).length ≤ 1000000) <| tryR (F_write_units (((units_767) ++ ([(kind_765, payload_766)])) ++ (units_767))) [1] (fun v855 => .ok (count_769)) (fun _ => bnd ((count_769 + (if true = true then 1 else 0))) fun count_870 => .ok (count_870)) : Rx (Int))) fun s => F__law_refused_k2 (payload_766) (before_768) s

def F__law_refused (kind' : Int) (payload' : (List Int)) (units' : (List (Int × (List Int)))) : Rx Bool :=
  Rx.bind ((tryR (F_write_unit kind' (payload')) [1] (fun v774 => .ok (0)) (fun _ => bnd ((0 + (if true = true then 1 else 0))) fun count_789 => .ok (count_789)) : Rx (Int))) fun s => F__law_refused_k1 (kind') (payload') (units') (payload') s

def F__starts_c1 (octets_879 : (List Int)) (it908 : Int) : Rx (Option Int) :=
  grd (-((octets_879 : (List Int)).length : Int) ≤ it908 ∧ it908 < ((octets_879 : (List Int)).length : Int)) <| (if ((itD (octets_879) (it908)) : Int) = 0 then grd (-((octets_879 : (List Int)).length : Int) ≤ (it908 + 1) ∧ (it908 + 1) < ((octets_879 : (List Int)).length : Int)) <| (if ((itD (octets_879) ((it908 + 1))) : Int) = 0 then grd (-((octets_879 : (List Int)).length : Int) ≤ (it908 + 2) ∧ (it908 + 2) < ((octets_879 : (List Int)).length : Int)) <| (if ((itD (octets_879) ((it908 + 2))) : Int) = 1 then .ok (some it908) else .ok none) else .ok none) else .ok none)

def F__starts (octets' : (List Int)) : Rx (List Int) :=
  grd (-(2 ^ 62) ≤ ((((octets') : (List Int)).length : Int) - 2) ∧ ((((octets') : (List Int)).length : Int) - 2) < 2 ^ 62) <| Rx.bind (mapF (rng (0) (Int.toNat (((((octets') : (List Int)).length : Int) - 2)))) [] (fun x => noEr (F__starts_c1 (octets') x))) fun v880 => .ok (v880)

def F_unescape_b1 (kept_958 : (List Int)) (zeros_959 : Int) (it962 : Int) : Rx ((List Int) × Int) :=
  (if 2 ≤ zeros_959 then (if (it962 : Int) = 3 then .ok ((kept_958), (0)) else grd ((kept_958).length ≤ 1000000) <| bnd ((kept_958) ++ [it962]) fun y972 => bnd ((if (it962 : Int) = 0 then (zeros_959 + 1) else 0)) fun zeros_976 => .ok ((y972), (zeros_976))) else grd ((kept_958).length ≤ 1000000) <| bnd ((kept_958) ++ [it962]) fun y984 => bnd ((if (it962 : Int) = 0 then (zeros_959 + 1) else 0)) fun zeros_988 => .ok ((y984), (zeros_988)))

def F_unescape_r1 (kept_994 : (List Int)) (zeros_995 : Int) : Rx (List Int) :=
  .ok (kept_994)

def F_unescape (octets' : (List Int)) : Rx (List Int) :=
  Rx.bind (forS (octets') ((([] : (List Int))), (0)) (fun s x => F_unescape_b1  (s.1) (s.2) x)) fun s => F_unescape_r1  (s.1) (s.2)

def F__read_raw_r1 (raw_1054 : (List Int)) (end_1069 : Int) : Rx (Int × (List Int)) :=
  grd (-((raw_1054 : (List Int)).length : Int) ≤ (end_1069 - 1) ∧ (end_1069 - 1) < ((raw_1054 : (List Int)).length : Int)) <| (if ((itD (raw_1054) ((end_1069 - 1))) : Int) = 128 then Rx.bind (F_unescape (cutL (raw_1054) (some (1)) (some ((end_1069 - 1))))) fun v1107 => (if 65536 < (((v1107) : (List Int)).length : Int) then .ok ((0, ([] : (List Int)))) else grd (-((raw_1054 : (List Int)).length : Int) ≤ 0 ∧ 0 < ((raw_1054 : (List Int)).length : Int)) <| .ok (((itD (raw_1054) (0)), v1107))) else .ok ((0, ([] : (List Int)))))

def F__read_raw_b1 (raw_1053 : (List Int)) (end_1063 : Int) : Rx (Lp (Int) (Int × (List Int))) :=
  grd (-((raw_1053 : (List Int)).length : Int) ≤ (end_1063 - 1) ∧ (end_1063 - 1) < ((raw_1053 : (List Int)).length : Int)) <| (if ((itD (raw_1053) ((end_1063 - 1))) : Int) = 0 then bnd ((end_1063 - 1)) fun end_1068 => .ok (.go (end_1068)) else .ok (.bk (end_1063)))

def F__read_raw (raw' : (List Int)) : Rx (Int × (List Int)) :=
  (if (raw' : (List Int)) = [] then .ok ((0, ([] : (List Int)))) else grd (-((raw' : (List Int)).length : Int) ≤ 0 ∧ 0 < ((raw' : (List Int)).length : Int)) <| (if 1 ≤ (itD (raw') (0)) then (if (itD (raw') (0)) ≤ 31 then bnd ((((raw') : (List Int)).length : Int)) fun end_1052 => Rx.bind ((whileR 1000000 (end_1052) (fun s => F__read_raw_b1 (raw') s) : Rx (Lp (Int) (Int × (List Int))))) fun l => l.aft Rx.ok fun s => F__read_raw_r1 (raw') s else .ok ((0, ([] : (List Int))))) else .ok ((0, ([] : (List Int))))))

def F_read_units_b1 (octets_1226 : (List Int)) (out_1264 : (List (Int × Int × (List Int)))) (it1267 : (Int × Int)) : Rx ((List (Int × Int × (List Int)))) :=
  Rx.bind (noEr (F__read_raw (cutL (octets_1226) (some ((it1267.1 + 3))) (some (it1267.2))))) fun v1277 => grd ((out_1264).length ≤ 1000000) <| .ok (((out_1264) ++ [(it1267.1, v1277.1, v1277.2)]))

def F_read_units_r1 (out_1318 : (List (Int × Int × (List Int)))) : Rx (List (Int × Int × (List Int))) :=
  .ok (out_1318)

def F_read_units (octets' : (List Int)) : Rx (List (Int × Int × (List Int))) :=
  Rx.bind (noEr (F__starts (octets'))) fun v1187 => grd ((cutL (v1187) (some (1)) none).length + ([(((octets') : (List Int)).length : Int)]).length ≤ 1000000) <| Rx.bind (forS (List.zip (v1187) ((cutL (v1187) (some (1)) none) ++ ([(((octets') : (List Int)).length : Int)]))) (([] : (List (Int × Int × (List Int))))) (fun s x => F_read_units_b1 (octets') s x)) fun s => F_read_units_r1  s

def F__law_large (cell' : Int) : Rx Bool :=
  (if ((cell' % 32) : Int) = 5 then grd (-(2 ^ 63) ≤ (65536 : Int) ∧ (65536 : Int) < 2 ^ 63 ∧ ([0]).length * Int.toNat (65536) ≤ 1000000) <| Rx.bind (F_write_unit 7 (repL ([0]) (65536))) fun v1339 => Rx.bind (noEr (F_read_units (v1339))) fun v1348 => (if ((((v1348) : (List (Int × Int × (List Int)))).length : Int) : Int) = 1 then grd (-((v1348 : (List (Int × Int × (List Int)))).length : Int) ≤ 0 ∧ 0 < ((v1348 : (List (Int × Int × (List Int)))).length : Int)) <| (if ((itD (v1348) (0)) : (Int × Int × (List Int))) = (0, 7, repL ([0]) (65536)) then grd ((repL ([0]) (65536) : (List Int)).length + ([0] : (List Int)).length ≤ 1000000) <| Rx.bind (F__law_refused 7 ((repL ([0]) (65536)) ++ ([0])) (([] : (List (Int × (List Int)))))) fun v1431 => .ok (v1431) else .ok (false)) else .ok (false)) else .ok (true))

def F__law_escape_k2 (octet_1465 : Int) (found_1466 : (List Int)) (zeros_1467 : Int) : Rx ((List Int) × Int) :=
  grd ((found_1466).length ≤ 1000000) <| bnd ((found_1466) ++ [octet_1465]) fun y1494 => grd ((-(2 ^ 64) < ((zeros_1467 + 1) : Int) ∧ ((zeros_1467 + 1) : Int) < 2 ^ 64) ∨ (-(2 ^ 64) < ((if decide ((octet_1465 : Int) = 0) = true then 1 else 0) : Int) ∧ ((if decide ((octet_1465 : Int) = 0) = true then 1 else 0) : Int) < 2 ^ 64)) <| bnd (((zeros_1467 + 1) * (if decide ((octet_1465 : Int) = 0) = true then 1 else 0))) fun zeros_1496 => .ok ((y1494), (zeros_1496))

def F__law_escape_b1 (found_1460 : (List Int)) (zeros_1461 : Int) (it1464 : Int) : Rx ((List Int) × Int) :=
  Rx.bind (((if 2 ≤ zeros_1461 then (if it1464 ≤ 3 then grd ((found_1460).length ≤ 1000000) <| bnd ((found_1460) ++ [3]) fun y1481 => .ok ((y1481), (0)) else .ok ((found_1460), (zeros_1461))) else .ok ((found_1460), (zeros_1461))) : Rx ((List Int) × Int))) fun s => F__law_escape_k2 (it1464) (s.1) (s.2)

def F__law_escape_r1 (found_1502 : (List Int)) (zeros_1503 : Int) : Rx (List Int) :=
  .ok (found_1502)

def F__law_escape (octets' : (List Int)) : Rx (List Int) :=
  Rx.bind (forS (octets') ((([] : (List Int))), (0)) (fun s x => F__law_escape_b1  (s.1) (s.2) x)) fun s => F__law_escape_r1  (s.1) (s.2)

def F_law_b1 (due_1581 : (List Int)) (told_1582 : (List (Int × Int × (List Int)))) (it1585 : (Int × (List Int))) : Rx ((List Int) × (List (Int × Int × (List Int)))) :=
  grd ((told_1582).length ≤ 1000000) <| bnd ((told_1582) ++ [((((due_1581) : (List Int)).length : Int), it1585.1, it1585.2)]) fun y1621 => grd ((due_1581).length + ([0, 0, 1, it1585.1]).length ≤ 1000000) <| grd ((it1585.2).length + ([128]).length ≤ 1000000) <| Rx.bind (F__law_escape ((it1585.2) ++ ([128]))) fun v1661 => grd (((due_1581) ++ ([0, 0, 1, it1585.1])).length + (v1661).length ≤ 1000000) <| .ok ((((due_1581) ++ ([0, 0, 1, it1585.1])) ++ (v1661)), (y1621))

def F_law_c2 (it1754 : (Int × (List Int))) : Rx (Int × (List Int)) :=
  .ok ((it1754.1, it1754.2))

def F_law_b3 (it1894 : (Int × (List Int))) : Rx (Lp Unit Bool) :=
  Rx.bind (F_write_unit it1894.1 (it1894.2)) fun v1895 => grd ((it1894.2).length + ([128]).length ≤ 1000000) <| Rx.bind (F__law_escape ((it1894.2) ++ ([128]))) fun v1932 => grd (([0, 0, 1, it1894.1]).length + (v1932).length ≤ 1000000) <| (if (v1895 : (List Int)) = ([0, 0, 1, it1894.1]) ++ (v1932) then .ok (.go ()) else .ok (.rt (false)))

def F_law_r3 (script_1855 : (List Int)) (units_1856 : (List (Int × (List Int)))) : Rx Bool :=
  Rx.bind (F__law_cell (script_1855) 41) fun v1968 => Rx.bind (F__law_draws v1968 ([4, 1000])) fun v1978 => grd (-((v1978 : (List Int)).length : Int) ≤ 1 ∧ 1 < ((v1978 : (List Int)).length : Int)) <| grd (-((v1978 : (List Int)).length : Int) ≤ 1 ∧ 1 < ((v1978 : (List Int)).length : Int)) <| grd (-((v1978 : (List Int)).length : Int) ≤ 0 ∧ 0 < ((v1978 : (List Int)).length : Int)) <| grd (-(([0, 32, (-(itD (v1978) (1))), (32 + (itD (v1978) (1)))] : (List Int)).length : Int) ≤ (itD (v1978) (0)) ∧ (itD (v1978) (0)) < (([0, 32, (-(itD (v1978) (1))), (32 + (itD (v1978) (1)))] : (List Int)).length : Int)) <| bnd ((itD ([0, 32, (-(itD (v1978) (1))), (32 + (itD (v1978) (1)))]) ((itD (v1978) (0))))) fun kind_2001 => Rx.bind (F__law_cell (script_1855) 42) fun v2002 => Rx.bind (F__law_some v2002 9) fun v2003 => Rx.bind (F__law_refused kind_2001 (v2003) (cutL (units_1856) none (some (2)))) fun v2031 => (if v2031 = true then Rx.bind (F__law_cell (script_1855) 43) fun v2036 => Rx.bind (F__law_large v2036) fun v2037 => .ok (v2037) else .ok (false))

def F_law_r1 (script_1539 : (List Int)) (units_1540 : (List (Int × (List Int)))) (due_1694 : (List Int)) (told_1695 : (List (Int × Int × (List Int)))) : Rx Bool :=
  Rx.bind (mapA (units_1540) [] (fun x => noEr (F_law_c2  x))) fun v1696 => Rx.bind (F_write_units (units_1540)) fun v1806 => (if (v1806 : (List Int)) = due_1694 then (if (units_1540 : (List (Int × (List Int)))) = v1696 then Rx.bind (noEr (F_read_units (v1806))) fun v1820 => (if (v1820 : (List (Int × Int × (List Int)))) = told_1695 then (if (v1806 : (List Int)) = due_1694 then Rx.bind (forR (cutL (units_1540) none (some (3))) () (fun s x => F_law_b3   x)) fun l => l.aft Rx.ok fun s => F_law_r3 (script_1539) (units_1540)  else .ok (false)) else .ok (false)) else .ok (false)) else .ok (false))

def F_law (script' : (List Int)) : Rx Bool :=
  Rx.bind (F__law_units (script')) fun v1504 => Rx.bind (forS (v1504) ((([] : (List Int))), (([] : (List (Int × Int × (List Int)))))) (fun s x => F_law_b1  (s.1) (s.2) x)) fun s => F_law_r1 (script') (v1504) (s.1) (s.2)
theorem cell_gv (s : List Int) (k : Int) (h : 0 ≤ k) : Gv (F__law_cell s k) (fun _ => True) := by
  unfold F__law_cell
  exact Gv.ite (fun c => Gv.grd ⟨by omega, c⟩ (.ok trivial)) fun _ => .ok trivial
def Inb : List Int → List Int → Prop
  | [], [] => True
  | v :: vs, l :: ls => 0 ≤ v ∧ v < l ∧ Inb vs ls
  | _, _ => False
theorem Inb.snoc : ∀ {vs ls : List Int} {y l : Int}, Inb vs ls → 0 ≤ y → y < l → Inb (vs ++ [y]) (ls ++ [l])
  | [], [], _, _, _, h0, h1 => ⟨h0, h1, trivial⟩
  | _ :: _, _ :: _, _, _, h, h0, h1 => ⟨h.1, h.2.1, Inb.snoc h.2.2 h0 h1⟩
  | [], _ :: _, _, _, h, _, _ => h.elim
  | _ :: _, [], _, _, h, _, _ => h.elim
theorem Inb.len : ∀ {vs ls : List Int}, Inb vs ls → vs.length = ls.length
  | [], [], _ => rfl
  | _ :: _, _ :: _, h => congrArg Nat.succ (Inb.len h.2.2)
  | [], _ :: _, h => h.elim
  | _ :: _, [], h => h.elim
theorem Inb.cons {v ls : List Int} {l : Int} (h : Inb v (l :: ls)) : ∃ a r, v = a :: r ∧ 0 ≤ a ∧ a < l ∧ Inb r ls := by
  cases v with
  | nil => exact h.elim
  | cons a r => exact ⟨a, r, rfl, h.1, h.2.1, h.2.2⟩
theorem Inb.nil {v : List Int} (h : Inb v []) : v = [] := by
  cases v with
  | nil => rfl
  | cons a r => exact h.elim
theorem draws_gv (cell : Int) (limits : List Int) (hl : ∀ l ∈ limits, 0 < l ∧ l < 18446744073709551616) (hn : limits.length ≤ 1000000) : Gv (F__law_draws cell limits) (fun v => Inb v limits) := by
  unfold F__law_draws
  refine Gv.bnd fun rest _ => Gv.bnd fun state _ => Gv.bnd fun free _ => Gv.bind (Gv.forS (P := fun i s => Inb s.1 (limits.take i)) ?_ fun i x s hx p => ?_) fun s p => .ok ?_
  · rw [List.take_zero]
    trivial
  · have hb0 := hl x (List.mem_of_getElem? hx)
    have hb : 0 < x ∧ x < 2 ^ 128 := ⟨hb0.1, by omega⟩
    have hlen := p.len
    have hi := get_len hx
    rw [List.length_take] at hlen
    have nx : ∀ y : Int, 0 ≤ y → y < x → Inb (s.1 ++ [y]) (limits.take (i + 1)) := fun y h0 h1 => by
      rw [take_succ_get hx]
      exact p.snoc h0 h1
    unfold F__law_draws_b1
    refine Gv.ite (fun _ => Gv.ite (fun _ => Gv.grd hb.1 (Gv.grd (by omega) (Gv.bnd fun y hy => Gv.grd ⟨hb.1, hb.2⟩ (Gv.bnd fun _ _ => .ok ?_)))) fun _ => Gv.bnd fun _ _ => Gv.bnd fun _ _ => Gv.grd hb.1 (Gv.grd (by omega) (Gv.bnd fun y hy => .ok ?_))) fun _ => Gv.bnd fun _ _ => Gv.bnd fun _ _ => Gv.grd hb.1 (Gv.grd (by omega) (Gv.bnd fun y hy => .ok ?_))
    · subst hy
      exact nx _ (Int.emod_nonneg _ (by omega)) (Int.emod_lt_of_pos _ hb.1)
    · subst hy
      exact nx _ (Int.emod_nonneg _ (by omega)) (Int.emod_lt_of_pos _ hb.1)
    · subst hy
      exact nx _ (Int.emod_nonneg _ (by omega)) (Int.emod_lt_of_pos _ hb.1)
  · rw [List.take_length] at p
    exact p
theorem ixg {xs : List Int} {k : Int} {n : Nat} (e : xs.length = n) (h : -(n : Int) ≤ k ∧ k < n) : -(xs.length : Int) ≤ k ∧ k < xs.length := by
  rw [e]
  exact h
theorem itD_lit {xs : List Int} {a k : Int} (n : Nat) (e : k = (n : Int)) (h : xs[n]? = some a) : itD xs k = a := by
  subst e
  have hl := get_len h
  unfold itD atI ixN
  rw [if_pos (by omega), if_pos (by omega)]
  show (xs[n]?).getD default = a
  rw [h]
  rfl
/-! ### octets escaped -/
def es : Int → List Int → List Int
  | _, [] => []
  | z, x :: r => if z = 2 ∧ x ≤ 3 then 3 :: x :: es (if x = 0 then 1 else 0) r else x :: es (if x = 0 then z + 1 else 0) r
def un : Int → List Int → List Int
  | _, [] => []
  | z, x :: r => if 2 ≤ z ∧ x = 3 then un 0 r else x :: un (if x = 0 then z + 1 else 0) r
/-- no start code, z zeros stand ahead -/
def nst : Int → List Int → Prop
  | _, [] => True
  | z, x :: r => ¬ (2 ≤ z ∧ x = 1) ∧ nst (if x = 0 then z + 1 else 0) r
theorem un_es : ∀ {p : List Int} {z : Int}, 0 ≤ z → z ≤ 2 → un z (es z p) = p
  | [], _, _, _ => rfl
  | x :: r, z, h0, h2 => by
    unfold es
    by_cases c : z = 2 ∧ x ≤ 3
    · rw [if_pos c]
      have e1 : un z (3 :: x :: es (if x = 0 then 1 else 0) r) = un 0 (x :: es (if x = 0 then 1 else 0) r) := by
        rw [un, if_pos ⟨by omega, rfl⟩]
      rw [e1, un, if_neg (by omega)]
      by_cases q : x = 0
      · rw [if_pos q, if_pos q]
        show x :: un 1 (es 1 r) = _
        rw [un_es (by decide) (by decide)]
      · rw [if_neg q, if_neg q, un_es (by decide) (by decide)]
    · rw [if_neg c, un]
      by_cases d : 2 ≤ z ∧ x = 3
      · exact absurd ⟨by omega, by omega⟩ c
      · rw [if_neg d]
        by_cases q : x = 0
        · rw [if_pos q, un_es (by omega) (by have : ¬ z = 2 := fun e => c ⟨e, by omega⟩; omega)]
        · rw [if_neg q, un_es (by decide) (by decide)]
theorem es_len : ∀ {p : List Int} {z : Int}, (es z p).length ≤ 2 * p.length
  | [], _ => Nat.le_refl 0
  | x :: r, z => by
    unfold es
    have a := es_len (p := r) (z := if x = 0 then 1 else 0)
    have b := es_len (p := r) (z := if x = 0 then z + 1 else 0)
    split
    · rw [List.length_cons, List.length_cons, List.length_cons]; omega
    · rw [List.length_cons, List.length_cons]; omega
theorem es_snoc : ∀ {p : List Int} {z : Int}, es z (p ++ [128]) = es z p ++ [128]
  | [], z => by
    show es z [128] = [128]
    unfold es
    rw [if_neg (by omega)]
    rfl
  | x :: r, z => by
    rw [List.cons_append, es, es]
    by_cases c : z = 2 ∧ x ≤ 3
    · rw [if_pos c, if_pos c, es_snoc]
      rfl
    · rw [if_neg c, if_neg c, es_snoc]
      rfl
theorem nst_es : ∀ {p : List Int} {z : Int}, 0 ≤ z → z ≤ 2 → nst z (es z p ++ [128])
  | [], z, _, _ => ⟨by omega, trivial⟩
  | x :: r, z, h0, h2 => by
    rw [es]
    by_cases c : z = 2 ∧ x ≤ 3
    · rw [if_pos c]
      refine ⟨by omega, ?_⟩
      rw [if_neg (by decide)]
      refine ⟨by omega, ?_⟩
      by_cases q : x = 0
      · rw [if_pos q, if_pos q]
        exact nst_es (by decide) (by decide)
      · rw [if_neg q, if_neg q]
        exact nst_es (by decide) (by decide)
    · rw [if_neg c]
      refine ⟨fun d => c ⟨by omega, by omega⟩, ?_⟩
      by_cases q : x = 0
      · rw [if_pos q]
        exact nst_es (by omega) (by have : ¬ z = 2 := fun e => c ⟨e, by omega⟩; omega)
      · rw [if_neg q]
        exact nst_es (by decide) (by decide)
/-- a start code stands there -/
def PS (o : List Int) (i : Nat) : Prop := o[i]? = some 0 ∧ o[i + 1]? = some 0 ∧ o[i + 2]? = some 1
instance (o : List Int) (i : Nat) : Decidable (PS o i) := by unfold PS; infer_instance
theorem nst_no : ∀ {l : List Int} {z : Int}, 0 ≤ z → nst z l → ∀ i, ¬ PS l i
  | [], _, _, _, i => fun h => by
    have := h.1
    simp at this
  | x :: r, z, hz, h, i + 1 => fun q => by
    refine nst_no (z := if x = 0 then z + 1 else 0) (by split <;> omega) h.2 i ⟨?_, ?_, ?_⟩
    · simpa using q.1
    · simpa using q.2.1
    · simpa using q.2.2
  | x :: r, z, hz, h, 0 => fun q => by
    obtain ⟨q1, q2, q3⟩ := q
    match r, h, q2, q3 with
    | y :: w :: t, h, q2, q3 =>
      have e1 : x = 0 := by simpa using q1
      have e2 : y = 0 := by simpa using q2
      have e3 : w = 1 := by simpa using q3
      subst e1 e2 e3
      have h2 := h.2
      rw [if_pos rfl] at h2
      have h3 := h2.2
      rw [if_pos rfl] at h3
      exact h3.1 ⟨by omega, rfl⟩
    | [_], _, _, q3 => simp at q3
    | [], _, q2, _ => simp at q2
theorem escape_go : ∀ {p acc : List Int} {z : Int}, acc.length + 2 * p.length ≤ 1000000 → ∃ z', forS p (acc, z) (fun s x => F_escape_b1 s.1 s.2 x) = .ok (acc ++ es z p, z')
  | [], acc, z, _ => ⟨z, by rw [show es z [] = [] from rfl, List.append_nil]; rfl⟩
  | x :: r, acc, z, h => by
    rw [List.length_cons] at h
    by_cases c : z = 2 ∧ x ≤ 3
    · obtain ⟨z', e⟩ := escape_go (p := r) (acc := acc ++ [3] ++ [x]) (z := if x = 0 then 0 + 1 else 0) (by simp only [List.length_append, List.length_singleton]; omega)
      refine ⟨z', ?_⟩
      have b : F_escape_b1 acc z x = .ok (acc ++ [3] ++ [x], if x = 0 then 0 + 1 else 0) := by
        unfold F_escape_b1
        rw [if_pos c.1, if_pos c.2, grd_pos (by omega), bnd_eq, bind_ok]
        unfold F_escape_k2
        rw [grd_pos (by simp only [List.length_append, List.length_singleton]; omega)]
        rfl
      show (F_escape_b1 acc z x).bind _ = _
      rw [b, bind_ok, e, es, if_pos c]
      simp
    · obtain ⟨z', e⟩ := escape_go (p := r) (acc := acc ++ [x]) (z := if x = 0 then z + 1 else 0) (by rw [List.length_append, List.length_singleton]; omega)
      refine ⟨z', ?_⟩
      have b : F_escape_b1 acc z x = .ok (acc ++ [x], if x = 0 then z + 1 else 0) := by
        have a : (if z = 2 then (if x ≤ 3 then grd (acc.length ≤ 1000000) <| bnd (acc ++ [3]) fun y => .ok (y, 0) else .ok (acc, z)) else .ok (acc, z) : Rx (List Int × Int)) = .ok (acc, z) := by
          by_cases c1 : z = 2
          · rw [if_pos c1, if_neg (fun q => c ⟨c1, q⟩)]
          · rw [if_neg c1]
        unfold F_escape_b1
        rw [a, bind_ok]
        unfold F_escape_k2
        rw [grd_pos (by show acc.length ≤ _; omega)]
        rfl
      show (F_escape_b1 acc z x).bind _ = _
      rw [b, bind_ok, e, es, if_neg c]
      simp
theorem escape_ok {p : List Int} (h : p.length ≤ 400000) : F_escape p = .ok (es 0 p) := by
  obtain ⟨z, e⟩ := escape_go (p := p) (acc := []) (z := 0) (by rw [List.length_nil]; omega)
  unfold F_escape
  rw [e]
  rfl
theorem unescape_go : ∀ {l acc : List Int} {z : Int}, acc.length + l.length ≤ 1000000 → ∃ z', forS l (acc, z) (fun s x => F_unescape_b1 s.1 s.2 x) = .ok (acc ++ un z l, z')
  | [], acc, z, _ => ⟨z, by rw [show un z [] = [] from rfl, List.append_nil]; rfl⟩
  | x :: r, acc, z, h => by
    rw [List.length_cons] at h
    by_cases c : 2 ≤ z ∧ x = 3
    · obtain ⟨z', e⟩ := unescape_go (l := r) (acc := acc) (z := 0) (by omega)
      refine ⟨z', ?_⟩
      have b : F_unescape_b1 acc z x = .ok (acc, 0) := by
        unfold F_unescape_b1
        rw [if_pos c.1, if_pos c.2]
      show (F_unescape_b1 acc z x).bind _ = _
      rw [b, bind_ok, e, un, if_pos c]
    · obtain ⟨z', e⟩ := unescape_go (l := r) (acc := acc ++ [x]) (z := if x = 0 then z + 1 else 0) (by rw [List.length_append, List.length_singleton]; omega)
      refine ⟨z', ?_⟩
      have b : F_unescape_b1 acc z x = .ok (acc ++ [x], if x = 0 then z + 1 else 0) := by
        unfold F_unescape_b1
        by_cases c1 : 2 ≤ z
        · rw [if_pos c1, if_neg (fun q => c ⟨c1, q⟩), grd_pos (by omega)]
          rfl
        · rw [if_neg c1, grd_pos (by omega)]
          rfl
      show (F_unescape_b1 acc z x).bind _ = _
      rw [b, bind_ok, e, un, if_neg c]
      simp
theorem unescape_ok {l : List Int} (h : l.length ≤ 1000000) : F_unescape l = .ok (un 0 l) := by
  obtain ⟨z, e⟩ := unescape_go (l := l) (acc := []) (z := 0) (by rw [List.length_nil]; omega)
  unfold F_unescape
  rw [e]
  rfl
/-! ### start codes -/
theorem filterMap_congr' {α β : Type} {xs : List α} {f g : α → Option β} (h : ∀ x ∈ xs, f x = g x) : xs.filterMap f = xs.filterMap g := by
  induction xs with
  | nil => rfl
  | cons x r ih => rw [List.filterMap_cons, List.filterMap_cons, h x List.mem_cons_self, ih fun y hy => h y (List.mem_cons_of_mem _ hy)]
def st (o : List Int) : List Int := (List.range o.length).filterMap fun i => if PS o i then some (i : Int) else none
theorem range_more {o : List Int} {m : Nat} : ∀ k, (∀ i, m ≤ i → ¬ PS o i) → (List.range (m + k)).filterMap (fun i => if PS o i then some (i : Int) else none) = (List.range m).filterMap (fun i => if PS o i then some (i : Int) else none)
  | 0, _ => rfl
  | k + 1, h => by
    rw [← Nat.add_assoc, List.range_succ, List.filterMap_append, range_more k h]
    simp [h (m + k) (by omega)]
theorem ps_lt {o : List Int} {i : Nat} (h : PS o i) : i + 2 < o.length := get_len h.2.2
theorem itD_is {xs : List Int} {j : Nat} {x : Int} (h : xs[j]? = some x) {k : Int} (e : k = (j : Int)) : itD xs k = x := by
  subst e
  have hl := get_len h
  unfold itD atI ixN
  rw [if_pos (by omega), if_pos (by omega)]
  show (xs[j]?).getD default = x
  rw [h]
  rfl
theorem starts_ok {o : List Int} (h : o.length ≤ 1000000) : F__starts o = .ok (st o) := by
  unfold F__starts
  have em : Int.toNat ((o.length : Int) - 2) = o.length - 2 := by omega
  rw [grd_pos ⟨by omega, by omega⟩, em, mapF_pure (f := fun x => noEr (F__starts_c1 o x)) (g := fun x : Int => if PS o x.toNat then some x else none) (fun x hx => ?_) (by rw [rng_len]; show 0 + _ ≤ _; omega), bind_ok]
  · congr 1
    unfold st rng
    rw [List.nil_append, List.filterMap_map]
    have e2 : (List.range o.length).filterMap (fun i => if PS o i then some (i : Int) else none) = (List.range (o.length - 2)).filterMap (fun i => if PS o i then some (i : Int) else none) := by
      have := range_more (o := o) (m := o.length - 2) (o.length - (o.length - 2)) (fun i hi q => by have := ps_lt q; omega)
      rwa [show o.length - 2 + (o.length - (o.length - 2)) = o.length by omega] at this
    rw [e2]
    refine filterMap_congr' fun i _ => ?_
    show (if PS o (0 + (i : Int)).toNat then some (0 + (i : Int)) else none) = _
    rw [Int.zero_add, Int.toNat_natCast]
  · obtain ⟨i, hi⟩ : ∃ i : Nat, x = (i : Int) := ⟨x.toNat, by have := rng_mem hx; omega⟩
    have hm := rng_mem hx
    subst hi
    rw [Int.toNat_natCast]
    have l0 : i + 2 < o.length := by omega
    have h0 : o[i]? = some o[i] := List.getElem?_eq_getElem (by omega)
    have h1 : o[i + 1]? = some o[i + 1] := List.getElem?_eq_getElem (by omega)
    have h2 : o[i + 2]? = some o[i + 2] := List.getElem?_eq_getElem l0
    unfold F__starts_c1
    rw [grd_pos (by omega), itD_is h0 rfl, grd_pos (by omega), itD_is h1 (by omega), grd_pos (by omega), itD_is h2 (by omega)]
    have back : PS o i → o[i] = 0 ∧ o[i + 1] = 0 ∧ o[i + 2] = 1 := fun q => by
      obtain ⟨q1, q2, q3⟩ := q
      rw [h0] at q1
      rw [h1] at q2
      rw [h2] at q3
      exact ⟨Option.some.inj q1, Option.some.inj q2, Option.some.inj q3⟩
    by_cases c0 : o[i] = 0
    · by_cases c1 : o[i + 1] = 0
      · by_cases c2 : o[i + 2] = 1
        · have q : PS o i := ⟨by rw [h0, c0], by rw [h1, c1], by rw [h2, c2]⟩
          rw [if_pos c0, if_pos c1, if_pos c2, if_pos q]; rfl
        · rw [if_pos c0, if_pos c1, if_neg c2, if_neg (fun q => c2 (back q).2.2)]; rfl
      · rw [if_pos c0, if_neg c1, if_neg (fun q => c1 (back q).2.1)]; rfl
    · rw [if_neg c0, if_neg (fun q => c0 (back q).1)]; rfl
/-- nothing, or it begins with a start code -/
def Begins (o : List Int) : Prop := o = [] ∨ ∃ r, o = 0 :: 0 :: 1 :: r
theorem st_app {b o : List Int} (h : Begins o) : st (b ++ o) = st b ++ (st o).map (fun s => s + (b.length : Int)) := by
  rcases h with rfl | ⟨r, rfl⟩
  · simp [st]
  · unfold st
    rw [List.length_append, List.range_add, List.filterMap_append, List.filterMap_map, List.map_filterMap]
    congr 1
    · refine filterMap_congr' fun i hi => ?_
      have hi := List.mem_range.mp hi
      have e : PS (b ++ 0 :: 0 :: 1 :: r) i ↔ PS b i := by
        constructor
        · intro q
          obtain ⟨q1, q2, q3⟩ := q
          rcases Nat.lt_or_ge (i + 2) b.length with z | z
          · rw [List.getElem?_append_left (by omega)] at q1 q2 q3
            exact ⟨q1, q2, q3⟩
          · rw [List.getElem?_append_right z] at q3
            rcases Nat.lt_or_ge (i + 1) b.length with y | y
            · rw [show i + 2 - b.length = 0 by omega] at q3
              simp at q3
            · rw [show i + 2 - b.length = 1 by omega] at q3
              simp at q3
        · intro q
          have := ps_lt q
          unfold PS
          rw [List.getElem?_append_left (by omega), List.getElem?_append_left (by omega), List.getElem?_append_left (by omega)]
          exact q
      by_cases c : PS b i
      · rw [if_pos c, if_pos (e.2 c)]
      · rw [if_neg c, if_neg (fun q => c (e.1 q))]
    · refine filterMap_congr' fun i _ => ?_
      have e : PS (b ++ 0 :: 0 :: 1 :: r) (b.length + i) ↔ PS (0 :: 0 :: 1 :: r) i := by
        unfold PS
        rw [List.getElem?_append_right (by omega), List.getElem?_append_right (by omega), List.getElem?_append_right (by omega), show b.length + i - b.length = i by omega, show b.length + i + 1 - b.length = i + 1 by omega, show b.length + i + 2 - b.length = i + 2 by omega]
      show (if PS (b ++ 0 :: 0 :: 1 :: r) (b.length + i) then some (((b.length + i : Nat)) : Int) else none) = Option.map _ (if PS (0 :: 0 :: 1 :: r) i then some (i : Int) else none)
      by_cases c : PS (0 :: 0 :: 1 :: r) i
      · rw [if_pos c, if_pos (e.2 c)]
        show some (((b.length + i : Nat)) : Int) = some ((i : Int) + (b.length : Int))
        congr 1
        omega
      · rw [if_neg c, if_neg (fun q => c (e.1 q))]
        rfl
theorem st_in {o : List Int} {s : Int} (h : s ∈ st o) : 0 ≤ s ∧ s < o.length := by
  unfold st at h
  obtain ⟨i, hi, e⟩ := List.mem_filterMap.mp h
  have hi := List.mem_range.mp hi
  by_cases c : PS o i
  · rw [if_pos c] at e
    have := Option.some.inj e
    omega
  · rw [if_neg c] at e
    cases e
/-! ### units read -/
def cutN (o : List Int) (a b : Int) : List Int := cutL o (some a) (some b)
theorem sIx_nn {n d : Nat} {v : Int} (h0 : 0 ≤ v) : HT.sIx n d (some v) = min v.toNat n := by
  show (if v < 0 then (v + (n : Int)).toNat else min v.toNat n) = _
  rw [if_neg (by omega)]
theorem cutN_eq {xs : List Int} {a b : Int} (h0 : 0 ≤ a) (h1 : 0 ≤ b) : cutN xs a b = (xs.drop a.toNat).take (b.toNat - a.toNat) := by
  unfold cutN cutL
  rw [sIx_nn h0, sIx_nn h1]
  apply List.ext_getElem?
  intro i
  rw [List.getElem?_take, List.getElem?_take, List.getElem?_drop, List.getElem?_drop]
  by_cases c : a.toNat ≤ xs.length
  · rw [Nat.min_eq_left c]
    by_cases d : i < b.toNat - a.toNat
    · rw [if_pos d]
      by_cases e : i < min b.toNat xs.length - a.toNat
      · rw [if_pos e]
      · rw [if_neg e, List.getElem?_eq_none (by omega)]
    · rw [if_neg d, if_neg (by omega)]
  · rw [List.getElem?_eq_none (by omega), List.getElem?_eq_none (by omega)]
    simp
def rr (r : List Int) : Int × List Int := match F__read_raw r with
  | .ok v => v
  | _ => (0, [])
theorem raw_gv {r : List Int} (h : r.length ≤ 400000) : Gv (F__read_raw r) (fun _ => True) := by
  unfold F__read_raw
  refine Gv.ite (fun _ => .ok trivial) fun hne => ?_
  have hp : 0 < r.length := by
    cases r with
    | nil => exact absurd rfl hne
    | cons x t => simp
  refine Gv.grd (by omega) (Gv.ite (fun c1 => Gv.ite (fun c2 => Gv.bnd fun e he => ?_) fun _ => .ok trivial) fun _ => .ok trivial)
  have h0 : r[0]? = some r[0] := List.getElem?_eq_getElem hp
  rw [itD_is (k := 0) h0 rfl] at c1
  refine Gv.bind (Gv.whileR (P := fun k : Int => 1 ≤ k ∧ k ≤ r.length) (R := fun k : Int => 1 ≤ k ∧ k ≤ r.length) (fun k => k.toNat) (fun k hk => ?_) ⟨by omega, by omega⟩ (by omega)) ?_
  · unfold F__read_raw_b1
    refine Gv.grd (by omega) (Gv.ite (fun c => Gv.bnd fun k2 hk2 => .ok (.inl ⟨k2, rfl, ⟨?_, by omega⟩, by omega⟩)) fun _ => .ok (.inr ⟨k, rfl, hk⟩))
    rcases Decidable.em (k = 1) with z | z
    · rw [itD_is h0 (by omega)] at c
      omega
    · omega
  · rintro _ ⟨k, rfl, hk⟩
    show Gv (F__read_raw_r1 r k) _
    unfold F__read_raw_r1
    have lc := cutL_len r (some 1) (some (k - 1))
    exact Gv.grd (by omega) (Gv.ite (fun _ => Gv.bind_eq (unescape_ok (by omega)) (Gv.ite (fun _ => .ok trivial) fun _ => Gv.grd (by omega) (.ok trivial))) fun _ => .ok trivial)
theorem raw_ok {r : List Int} (h : r.length ≤ 400000) : F__read_raw r = .ok (rr r) := by
  obtain ⟨v, e, _⟩ := raw_gv h
  unfold rr
  rw [e]
def item (o : List Int) (p : Int × Int) : Int × Int × List Int := (p.1, (rr (cutN o (p.1 + 3) p.2)).1, (rr (cutN o (p.1 + 3) p.2)).2)
def zs (ss : List Int) (e : Int) : List (Int × Int) := List.zip ss (ss.drop 1 ++ [e])
def rd (o : List Int) : List (Int × Int × List Int) := (zs (st o) o.length).map (item o)
theorem forS_snoc {α β : Type} {xs : List α} {F : List β → α → Rx (List β)} {f : α → β} (h : ∀ x ∈ xs, ∀ s : List β, s.length ≤ 1000000 → F s x = .ok (s ++ [f x])) : ∀ {s : List β}, s.length + xs.length ≤ 1000000 → forS xs s F = .ok (s ++ xs.map f) := by
  induction xs with
  | nil => intro s _; simp [forS]
  | cons x r ih =>
    intro s hl
    rw [List.length_cons] at hl
    show (F s x).bind _ = _
    rw [h x List.mem_cons_self s (by omega), bind_ok, ih (fun y hy => h y (List.mem_cons_of_mem _ hy)) (by rw [List.length_append, List.length_singleton]; omega), List.map_cons, List.append_assoc]
    rfl
theorem st_len (o : List Int) : (st o).length ≤ o.length := by
  unfold st
  have := List.length_filterMap_le (fun i => if PS o i then some (i : Int) else none) (List.range o.length)
  rwa [List.length_range] at this
theorem read_ok {o : List Int} (h : o.length ≤ 400000) : F_read_units o = .ok (rd o) := by
  have hs := st_len o
  unfold F_read_units
  rw [starts_ok (by omega), noEr_ok, bind_ok]
  have e1 : cutL (st o) (some 1) none = (st o).drop 1 := by
    unfold cutL
    rw [sIx_nn (by decide)]
    show ((st o).drop (min 1 (st o).length)).take ((st o).length - min 1 (st o).length) = _
    by_cases c : 1 ≤ (st o).length
    · rw [Nat.min_eq_left c, List.take_of_length_le (by rw [List.length_drop]; omega)]
    · rw [Nat.min_eq_right (by omega), List.drop_of_length_le (by omega), List.drop_of_length_le (by omega)]
      simp
  rw [e1, grd_pos (by rw [List.length_drop]; show _ + 1 ≤ _; omega), forS_snoc (f := item o) (fun x _ s hs => ?_) (by rw [List.length_zip]; show 0 + _ ≤ _; omega), bind_ok]
  · rfl
  · unfold F_read_units_b1
    have lc := cutL_len o (some (x.1 + 3)) (some x.2)
    rw [raw_ok (by omega), noEr_ok, bind_ok, grd_pos hs]
    rfl
theorem zs_cons (x : Int) (r : List Int) (e : Int) : zs (x :: r) e = (x, r.headD e) :: zs r e := by
  unfold zs
  cases r with
  | nil => rfl
  | cons y t => rfl
theorem zs_app : ∀ (a b : List Int) (e : Int), zs (a ++ b) e = zs a (b.headD e) ++ zs b e
  | [], b, e => by simp [zs]
  | x :: r, b, e => by
    rw [List.cons_append, zs_cons, zs_cons, zs_app r b e, List.cons_append]
    congr 2
    cases r with
    | nil => rfl
    | cons y t => rfl
theorem zs_map (k : Int) : ∀ (b : List Int) (e : Int), zs (b.map (fun s => s + k)) (e + k) = (zs b e).map (fun p => (p.1 + k, p.2 + k))
  | [], e => rfl
  | x :: r, e => by
    rw [List.map_cons, zs_cons, zs_cons, List.map_cons, zs_map k r e]
    congr 2
    cases r with
    | nil => rfl
    | cons y t => rfl
theorem zs_in : ∀ {ss : List Int} {e : Int} {p : Int × Int}, p ∈ zs ss e → p.1 ∈ ss ∧ (p.2 ∈ ss ∨ p.2 = e)
  | [], e, p, h => by simp [zs] at h
  | x :: r, e, p, h => by
    rw [zs_cons] at h
    rcases List.mem_cons.mp h with z | z
    · rw [z]
      refine ⟨List.mem_cons_self, ?_⟩
      cases r with
      | nil => exact .inr rfl
      | cons y t => exact .inl (List.mem_cons_of_mem _ List.mem_cons_self)
    · obtain ⟨a, b⟩ := zs_in z
      exact ⟨List.mem_cons_of_mem _ a, b.elim (fun q => .inl (List.mem_cons_of_mem _ q)) .inr⟩
def shift (k : Int) (u : Int × Int × List Int) : Int × Int × List Int := (u.1 + k, u.2.1, u.2.2)
theorem rd_app {b o : List Int} (h : Begins o) : rd (b ++ o) = rd b ++ (rd o).map (shift b.length) := by
  rcases h with rfl | ⟨r, rfl⟩
  · rw [List.append_nil]
    simp [rd, st, zs]
  · have hd : ∃ t, st (0 :: 0 :: 1 :: r) = 0 :: t := by
      unfold st
      rw [List.length_cons, List.range_succ_eq_map, List.filterMap_cons]
      have : PS (0 :: 0 :: 1 :: r) 0 := ⟨rfl, rfl, rfl⟩
      rw [if_pos this]
      exact ⟨_, rfl⟩
    obtain ⟨t, ht⟩ := hd
    generalize ho : (0 :: 0 :: 1 :: r : List Int) = o at ht
    have hb : Begins o := .inr ⟨r, ho.symm⟩
    unfold rd
    rw [st_app hb, zs_app, List.map_append]
    have e1 : ((st o).map (fun s => s + (b.length : Int))).headD (((b ++ o).length : Nat) : Int) = (b.length : Int) := by
      rw [ht]
      show (0 : Int) + (b.length : Int) = _
      omega
    have e2 : (((b ++ o).length : Nat) : Int) = (o.length : Int) + (b.length : Int) := by rw [List.length_append]; omega
    rw [e1, e2, zs_map]
    congr 1
    · refine List.map_congr_left fun p hp => ?_
      obtain ⟨a, c⟩ := zs_in hp
      have pa := st_in a
      have pc : 0 ≤ p.2 ∧ p.2 ≤ b.length := by
        rcases c with c | c
        · have := st_in c; omega
        · omega
      unfold item
      have : cutN (b ++ o) (p.1 + 3) p.2 = cutN b (p.1 + 3) p.2 := by
        rw [cutN_eq (by omega) pc.1, cutN_eq (by omega) pc.1]
        rcases Nat.lt_or_ge p.2.toNat (p.1 + 3).toNat with z | z
        · rw [show p.2.toNat - (p.1 + 3).toNat = 0 by omega]
          simp
        · rw [List.drop_append_of_le_length (by omega), List.take_append_of_le_length (by rw [List.length_drop]; omega)]
      rw [this]
    · rw [List.map_map, List.map_map]
      refine List.map_congr_left fun p hp => ?_
      obtain ⟨a, c⟩ := zs_in hp
      have pa := st_in a
      have pc : 0 ≤ p.2 := by
        rcases c with c | c
        · have := st_in c; omega
        · omega
      show item (b ++ o) (p.1 + b.length, p.2 + b.length) = shift b.length (item o p)
      unfold item shift
      have : cutN (b ++ o) (p.1 + (b.length : Int) + 3) (p.2 + (b.length : Int)) = cutN o (p.1 + 3) p.2 := by
        rw [cutN_eq (by omega) (by omega), cutN_eq (by omega) pc, show (p.1 + (b.length : Int) + 3).toNat = b.length + (p.1 + 3).toNat by omega, ← List.drop_drop, List.drop_left]
        congr 1
        omega
      show (_, _, _) = (_, _, _)
      simp only [this]
/-! ### units written -/
def wu (u : Int × List Int) : List Int := [0, 0, 1, u.1] ++ (es 0 u.2 ++ [128])
theorem wu_len (u : Int × List Int) : (wu u).length ≤ 5 + 2 * u.2.length := by
  have := es_len (p := u.2) (z := 0)
  unfold wu
  simp only [List.length_append, List.length_cons, List.length_nil]
  omega
theorem write_unit_ok {k : Int} {p : List Int} (h1 : 1 ≤ k) (h2 : k ≤ 31) (hp : p.length ≤ 65536) : F_write_unit k p = .ok (wu (k, p)) := by
  have := es_len (p := p) (z := 0)
  unfold F_write_unit
  rw [if_pos h1, if_pos h2, if_neg (by omega), grd_pos (by show _ + 1 ≤ _; omega), escape_ok (by rw [List.length_append, List.length_singleton]; omega), bind_ok, es_snoc, grd_pos (by rw [List.length_append, List.length_singleton]; show 4 + _ ≤ _; omega)]
  rfl
theorem st_wu {u : Int × List Int} (h : 1 ≤ u.1) : st (wu u) = [0] := by
  have no : ∀ i, 1 ≤ i → ¬ PS (wu u) i := by
    intro i hi q
    have tail : nst 0 (u.1 :: (es 0 u.2 ++ [128])) := ⟨by omega, by rw [if_neg (by omega)]; exact nst_es (by decide) (by decide)⟩
    obtain ⟨q1, q2, q3⟩ := q
    have e : wu u = 0 :: 0 :: 1 :: (u.1 :: (es 0 u.2 ++ [128])) := rfl
    rw [e] at q1 q2 q3
    match i, hi with
    | 1, _ => simp at q2
    | 2, _ => simp at q1
    | i + 3, _ => exact nst_no (by decide) tail i ⟨by simpa using q1, by simpa using q2, by simpa using q3⟩
  unfold st
  have hl : (wu u).length = (es 0 u.2).length + 4 + 1 := by
    unfold wu
    simp only [List.length_append, List.length_cons, List.length_nil]
    omega
  rw [hl, List.range_succ_eq_map, List.filterMap_cons]
  have z : PS (wu u) 0 := ⟨rfl, rfl, rfl⟩
  rw [if_pos z]
  show (0 : Int) :: _ = _
  congr 1
  rw [List.filterMap_map]
  refine List.filterMap_eq_nil_iff.mpr fun i _ => ?_
  show (if PS (wu u) (i + 1) then _ else none) = none
  rw [if_neg (no (i + 1) (by omega))]
theorem raw_wu {k : Int} {p : List Int} (h1 : 1 ≤ k) (h2 : k ≤ 31) (hp : p.length ≤ 65536) : rr (k :: (es 0 p ++ [128])) = (k, p) := by
  have hl := es_len (p := p) (z := 0)
  generalize hr : (k :: (es 0 p ++ [128]) : List Int) = r
  have rl : r.length = (es 0 p).length + 2 := by rw [← hr]; simp
  have g0 : r[0]? = some k := by rw [← hr]; rfl
  have gl : r[(es 0 p).length + 1]? = some 128 := by
    rw [← hr, List.getElem?_cons_succ, List.getElem?_append_right (Nat.le_refl _), Nat.sub_self]
    rfl
  have i0 : itD r 0 = k := itD_is g0 rfl
  have il : itD r ((r.length : Int) - 1) = 128 := itD_is gl (by omega)
  have key : F__read_raw r = .ok (k, p) := by
    unfold F__read_raw
    rw [if_neg (by rw [← hr]; simp), grd_pos (by omega), i0, if_pos h1, if_pos h2, bnd_eq]
    have w : whileR 1000000 (r.length : Int) (fun s => F__read_raw_b1 r s) = .ok (.go (r.length : Int)) := by
      show (F__read_raw_b1 r (r.length : Int)).bind _ = _
      have : F__read_raw_b1 r (r.length : Int) = .ok (.bk (r.length : Int)) := by
        unfold F__read_raw_b1
        rw [grd_pos (by omega), il, if_neg (by decide)]
      rw [this]
      rfl
    rw [w, bind_ok]
    show F__read_raw_r1 r (r.length : Int) = _
    unfold F__read_raw_r1
    have cu : cutL r (some 1) (some ((r.length : Int) - 1)) = es 0 p := by
      show cutN r 1 ((r.length : Int) - 1) = _
      rw [cutN_eq (by decide) (by omega), ← hr]
      show (es 0 p ++ [128]).take _ = _
      rw [List.take_append_of_le_length (by simp only [List.length_cons, List.length_append, List.length_nil]; omega), List.take_of_length_le (by simp only [List.length_cons, List.length_append, List.length_nil]; omega)]
    rw [grd_pos (by omega), il, if_pos rfl, cu, unescape_ok (by omega), bind_ok, un_es (by decide) (by decide), if_neg (by omega), grd_pos (by omega), i0]
  unfold rr
  rw [key]
theorem rd_wu {k : Int} {p : List Int} (h1 : 1 ≤ k) (h2 : k ≤ 31) (hp : p.length ≤ 65536) : rd (wu (k, p)) = [(0, k, p)] := by
  unfold rd
  rw [st_wu (u := (k, p)) h1]
  show [item (wu (k, p)) (0, _)] = _
  unfold item
  have : cutN (wu (k, p)) (0 + 3) ((wu (k, p)).length : Int) = k :: (es 0 p ++ [128]) := by
    rw [cutN_eq (by decide) (by omega)]
    show (k :: (es 0 p ++ [128])).take _ = _
    exact List.take_of_length_le (by show _ ≤ ((wu (k, p)).length : Int).toNat - 3; unfold wu; simp only [List.length_cons, List.length_append, List.length_nil]; omega)
  show [(0, (rr (cutN (wu (k, p)) (0 + 3) _)).1, (rr (cutN (wu (k, p)) (0 + 3) _)).2)] = _
  rw [this, raw_wu h1 h2 hp]
theorem begins_flat (us : List (Int × List Int)) : Begins (us.flatMap wu) := by
  cases us with
  | nil => exact .inl rfl
  | cons u r => exact .inr ⟨_, rfl⟩
theorem rd_units : ∀ {us : List (Int × List Int)}, (∀ u ∈ us, 1 ≤ u.1 ∧ u.1 ≤ 31 ∧ u.2.length ≤ 1000) → (rd (us.flatMap wu)).map (fun t => (t.2.1, t.2.2)) = us
  | [], _ => rfl
  | u :: r, h => by
    obtain ⟨a, b, c⟩ := h u List.mem_cons_self
    have hu : u = (u.1, u.2) := rfl
    have ih := rd_units (us := r) fun v hv => h v (List.mem_cons_of_mem _ hv)
    rw [List.flatMap_cons, rd_app (begins_flat r), List.map_append, hu, rd_wu a b (by omega), List.map_map]
    show (u.1, u.2) :: ((rd (r.flatMap wu)).map fun t => (t.2.1, t.2.2)) = _
    rw [ih]
theorem flat_wu_len : ∀ {us : List (Int × List Int)}, (∀ u ∈ us, u.2.length ≤ 60) → (us.flatMap wu).length ≤ 125 * us.length
  | [], _ => Nat.le_refl 0
  | u :: r, h => by
    have a := wu_len u
    have b := h u List.mem_cons_self
    have c := flat_wu_len (us := r) fun v hv => h v (List.mem_cons_of_mem _ hv)
    rw [List.flatMap_cons, List.length_append, List.length_cons]
    omega
theorem write_units_ok {us : List (Int × List Int)} (h : ∀ u ∈ us, 1 ≤ u.1 ∧ u.1 ≤ 31 ∧ u.2.length ≤ 60) (hl : us.length ≤ 1000) : F_write_units us = .ok (us.flatMap wu) := by
  have key : ∀ (xs : List (Int × List Int)) (acc : List Int), (∀ u ∈ xs, 1 ≤ u.1 ∧ u.1 ≤ 31 ∧ u.2.length ≤ 60) → acc.length + 125 * xs.length ≤ 1000000 → forS xs acc (fun s x => F_write_units_b1 s x) = .ok (acc ++ xs.flatMap wu) := by
    intro xs
    induction xs with
    | nil => intro acc _ _; simp [forS]
    | cons u r ih =>
      intro acc hh ha
      obtain ⟨a, b, c⟩ := hh u List.mem_cons_self
      have wl := wu_len u
      rw [List.length_cons] at ha
      have e : F_write_units_b1 acc u = .ok (acc ++ wu u) := by
        unfold F_write_units_b1
        rw [write_unit_ok a b (by omega), bind_ok, grd_pos (by show acc.length + (wu u).length ≤ _; omega)]
        rfl
      show (F_write_units_b1 acc u).bind _ = _
      rw [e, bind_ok, ih (acc ++ wu u) (fun v hv => hh v (List.mem_cons_of_mem _ hv)) (by rw [List.length_append]; omega), List.flatMap_cons, List.append_assoc]
  unfold F_write_units
  rw [key us [] h (by rw [List.length_nil]; omega)]
  rfl
theorem rep_in {n : Int} : (∀ l ∈ repL [(256 : Int)] n, 0 < l ∧ l < 18446744073709551616) ∧ (repL [(256 : Int)] n).length = n.toNat := by
  have e : repL [(256 : Int)] n = List.replicate n.toNat 256 := by
    unfold repL
    induction n.toNat with
    | zero => rfl
    | succ k ih => rw [List.replicate_succ, List.flatten_cons, ih, List.replicate_succ]; rfl
  rw [e]
  refine ⟨fun l hl => ?_, List.length_replicate⟩
  rw [List.eq_of_mem_replicate hl]
  decide
theorem some_gv {cell size : Int} (h0 : 0 ≤ size) (h1 : size ≤ 100) : Gv (F__law_some cell size) (fun v => (v.length : Int) = size) := by
  obtain ⟨r1, r2⟩ := rep_in (n := size)
  unfold F__law_some
  refine Gv.bnd fun kind _ => Gv.grd ⟨by omega, by omega, by rw [List.length_singleton]; omega⟩ (Gv.bind (draws_gv _ _ r1 (by omega)) fun v hv => ?_)
  have hl : (v.length : Int) = size := by have := hv.len; omega
  refine Gv.bind (P := fun w : List Int => (w.length : Int) = size) (.ite (fun _ => Gv.bind_eq (mapA_pure0 (g := fun x => x % 4) (fun x _ => rfl) (by omega)) (.ok (by rw [List.length_map]; exact hl))) fun _ => .ok hl) fun w hw => ?_
  unfold F__law_some_k1
  refine Gv.bind (P := fun w : List Int => (w.length : Int) = size) (.ite (fun _ => Gv.bind_eq (mapA_pure0 (f := fun x => noEr (F__law_some_c4 x)) (g := fun x => itD [0, 0, 0, 0, 0, 1, 3, x] (x % 8)) (fun x _ => ?_) (by omega)) (.ok (by rw [List.length_map]; exact hw))) fun _ => .ok hw) fun w hw => ?_
  · unfold F__law_some_c4
    rw [grd_pos (by simp only [List.length_cons, List.length_nil]; omega)]
    rfl
  · unfold F__law_some_k3
    refine Gv.bind (P := fun w : List Int => (w.length : Int) = size) (.ite (fun _ => Gv.bind_eq (mapA_pure0 (f := fun x => noEr (F__law_some_c6 x)) (g := fun x => itD [0, 0, 1, 128, (1 + ((x / 8) % 6)), 3, x, 0] (x % 8)) (fun x _ => ?_) (by omega)) (.ok (by rw [List.length_map]; exact hw))) fun _ => .ok hw) fun w hw => .ok hw
    unfold F__law_some_c6
    rw [grd_pos (by simp only [List.length_cons, List.length_nil]; omega)]
    rfl
theorem law_escape_go : ∀ {p acc : List Int} {z : Int}, 0 ≤ z → z ≤ 2 → acc.length + 2 * p.length ≤ 1000000 → ∃ z', forS p (acc, z) (fun s x => F__law_escape_b1 s.1 s.2 x) = .ok (acc ++ es z p, z')
  | [], acc, z, _, _, _ => ⟨z, by rw [show es z [] = [] from rfl, List.append_nil]; rfl⟩
  | x :: r, acc, z, h0, h2, h => by
    rw [List.length_cons] at h
    have k2 : ∀ (a : List Int) (w : Int), 0 ≤ w → w ≤ 2 → a.length ≤ 1000000 → F__law_escape_k2 x a w = .ok (a ++ [x], if x = 0 then w + 1 else 0) := fun a w w0 w2 ha => by
      unfold F__law_escape_k2
      rw [grd_pos ha, bnd_eq, grd_pos (.inl ⟨by omega, by omega⟩), bnd_eq]
      by_cases q : x = 0
      · rw [if_pos q, if_pos (decide_eq_true q), Int.mul_one]
      · rw [if_neg q, if_neg (by simpa using q), Int.mul_zero]
    by_cases c : z = 2 ∧ x ≤ 3
    · obtain ⟨z', e⟩ := law_escape_go (p := r) (acc := acc ++ [3] ++ [x]) (z := if x = 0 then 0 + 1 else 0) (by split <;> omega) (by split <;> omega) (by simp only [List.length_append, List.length_singleton]; omega)
      refine ⟨z', ?_⟩
      have b : F__law_escape_b1 acc z x = .ok (acc ++ [3] ++ [x], if x = 0 then 0 + 1 else 0) := by
        unfold F__law_escape_b1
        rw [if_pos (by omega), if_pos c.2, grd_pos (by omega), bnd_eq, bind_ok]
        exact k2 (acc ++ [3]) 0 (by decide) (by decide) (by simp only [List.length_append, List.length_singleton]; omega)
      show (F__law_escape_b1 acc z x).bind _ = _
      rw [b, bind_ok, e, es, if_pos c]
      simp
    · obtain ⟨z', e⟩ := law_escape_go (p := r) (acc := acc ++ [x]) (z := if x = 0 then z + 1 else 0) (by split <;> omega) (by split <;> omega) (by rw [List.length_append, List.length_singleton]; omega)
      refine ⟨z', ?_⟩
      have b : F__law_escape_b1 acc z x = .ok (acc ++ [x], if x = 0 then z + 1 else 0) := by
        have a : (if 2 ≤ z then (if x ≤ 3 then grd (acc.length ≤ 1000000) <| bnd (acc ++ [3]) fun y => .ok (y, 0) else .ok (acc, z)) else .ok (acc, z) : Rx (List Int × Int)) = .ok (acc, z) := by
          by_cases c1 : 2 ≤ z
          · rw [if_pos c1, if_neg (fun q => c ⟨by omega, q⟩)]
          · rw [if_neg c1]
        unfold F__law_escape_b1
        rw [a, bind_ok]
        exact k2 acc z h0 h2 (by omega)
      show (F__law_escape_b1 acc z x).bind _ = _
      rw [b, bind_ok, e, es, if_neg c]
      simp
theorem law_escape_ok {p : List Int} (h : p.length ≤ 400000) : F__law_escape (p ++ [128]) = .ok (es 0 p ++ [128]) := by
  obtain ⟨z, e⟩ := law_escape_go (p := p ++ [128]) (acc := []) (z := 0) (by decide) (by decide) (by rw [List.length_append, List.length_nil, List.length_singleton]; omega)
  unfold F__law_escape
  rw [e, ← es_snoc]
  rfl
def Gd (u : Int × List Int) : Prop := 1 ≤ u.1 ∧ u.1 ≤ 31 ∧ u.2.length ≤ 3000
theorem flat_big : ∀ {us : List (Int × List Int)}, (∀ u ∈ us, Gd u) → (us.flatMap wu).length ≤ 6005 * us.length
  | [], _ => Nat.le_refl 0
  | u :: r, h => by
    have a := wu_len u
    have b := (h u List.mem_cons_self).2.2
    have c := flat_big (us := r) fun v hv => h v (List.mem_cons_of_mem _ hv)
    rw [List.flatMap_cons, List.length_append, List.length_cons]
    omega
theorem write_step {acc : List Int} {u : Int × List Int} (h : Gd u) (ha : acc.length + 6005 ≤ 1000000) : F_write_units_b1 acc u = .ok (acc ++ wu u) := by
  obtain ⟨a, b, c⟩ := h
  have wl := wu_len u
  unfold F_write_units_b1
  rw [write_unit_ok a b (by omega), bind_ok, grd_pos (by show acc.length + (wu u).length ≤ _; omega)]
  rfl
theorem write_go : ∀ (xs : List (Int × List Int)) (acc : List Int), (∀ u ∈ xs, Gd u) → acc.length + 6005 * xs.length ≤ 1000000 → forS xs acc (fun s x => F_write_units_b1 s x) = .ok (acc ++ xs.flatMap wu)
  | [], acc, _, _ => by simp [forS]
  | u :: r, acc, h, ha => by
    rw [List.length_cons] at ha
    have wl := wu_len u
    have hb := (h u List.mem_cons_self).2.2
    show (F_write_units_b1 acc u).bind _ = _
    rw [write_step (h u List.mem_cons_self) (by omega), bind_ok, write_go r (acc ++ wu u) (fun v hv => h v (List.mem_cons_of_mem _ hv)) (by rw [List.length_append]; omega), List.flatMap_cons, List.append_assoc]
theorem write_big {us : List (Int × List Int)} (h : ∀ u ∈ us, Gd u) (hl : us.length ≤ 100) : F_write_units us = .ok (us.flatMap wu) := by
  unfold F_write_units
  rw [write_go us [] h (by rw [List.length_nil]; omega)]
  rfl
theorem write_er_go : ∀ (xs : List (Int × List Int)) (acc : List Int) (u : Int × List Int) (ys : List (Int × List Int)), (∀ v ∈ xs, Gd v) → acc.length + 6005 * xs.length ≤ 1000000 → F_write_unit u.1 u.2 = .er 1 → forS (xs ++ u :: ys) acc (fun s x => F_write_units_b1 s x) = .er 1
  | [], acc, u, ys, _, _, e => by
    show (F_write_units_b1 acc u).bind _ = _
    unfold F_write_units_b1
    rw [e]
    rfl
  | v :: r, acc, u, ys, h, ha, e => by
    rw [List.length_cons] at ha
    have wl := wu_len v
    have hb := (h v List.mem_cons_self).2.2
    show (F_write_units_b1 acc v).bind _ = _
    rw [write_step (h v List.mem_cons_self) (by omega), bind_ok]
    exact write_er_go r (acc ++ wu v) u ys (fun w hw => h w (List.mem_cons_of_mem _ hw)) (by rw [List.length_append]; omega) e
theorem refused_ok {k : Int} {p : List Int} {us : List (Int × List Int)} (e : F_write_unit k p = .er 1) (h : ∀ u ∈ us, Gd u) (hl : us.length ≤ 100) : F__law_refused k p us = .ok true := by
  have e2 : F_write_units ((us ++ [(k, p)]) ++ us) = .er 1 := by
    unfold F_write_units
    rw [List.append_assoc, List.singleton_append, write_er_go us [] (k, p) us h (by rw [List.length_nil]; omega) e]
    rfl
  refine Gv.get ?_
  unfold F__law_refused
  refine Gv.bind (P := fun z : Int => z = 1) (Gv.tryEr e (by simp) (.bnd fun z hz => .ok hz)) fun z hz => ?_
  subst hz
  unfold F__law_refused_k1
  refine Gv.bind (P := fun z : Int => z = 2) (Gv.grd (by simp only [List.length_cons, List.length_nil]; omega) (Gv.grd (by simp only [List.length_append, List.length_cons, List.length_nil]; omega) (Gv.tryEr e2 (by simp) (.bnd fun z hz => .ok hz)))) fun z hz => ?_
  subst hz
  unfold F__law_refused_k2
  exact Gv.pos (by decide) (.ok (decide_eq_true rfl))
theorem unit_er {k : Int} {p : List Int} (h : ¬ (1 ≤ k ∧ k ≤ 31)) : F_write_unit k p = .er 1 := by
  unfold F_write_unit
  by_cases c : 1 ≤ k
  · rw [if_pos c, if_neg (fun q => h ⟨c, q⟩)]
  · rw [if_neg c]
theorem unit_long {k : Int} {p : List Int} (h1 : 1 ≤ k) (h2 : k ≤ 31) (h : 65536 < p.length) : F_write_unit k p = .er 1 := by
  unfold F_write_unit
  rw [if_pos h1, if_pos h2, if_pos (by omega)]
theorem repL_len3 {xs : List Int} {n : Int} : (repL xs n).length = n.toNat * xs.length := by
  unfold repL
  induction n.toNat with
  | zero => simp
  | succ k ih => rw [List.replicate_succ, List.flatten_cons, List.length_append, ih, Nat.succ_mul]; omega
theorem cut3 (xs : List Int) : (cutL xs none (some 3)).length ≤ 3 := by
  unfold cutL
  rw [sIx_nn (by decide), List.length_take]
  have : min (Int.toNat 3) xs.length ≤ 3 := Nat.min_le_left _ _
  omega
theorem units_gv (s : List Int) : Gv (F__law_units s) (fun us => us.length ≤ 20 ∧ ∀ u ∈ us, Gd u) := by
  unfold F__law_units
  generalize hN : (if ((s.length : Nat) : Int) / 2 < 20 then ((s.length : Nat) : Int) / 2 else 20) = N
  have hN2 : 0 ≤ N ∧ N ≤ 20 := by
    rw [← hN]
    split <;> omega
  refine Gv.grd (by omega) (Gv.bind (Gv.forS (P := fun i (us : List (Int × List Int)) => us.length = i ∧ ∀ u ∈ us, Gd u) ⟨rfl, fun u hu => absurd hu List.not_mem_nil⟩ fun i x us hx p => ?_) fun us p => ?_)
  · obtain ⟨rfl, hi⟩ := rng_at hx
    have p1 := p.1
    unfold F__law_units_b1
    refine Gv.bind (cell_gv s _ (by omega)) fun c _ => Gv.bind (draws_gv c [31, 31] (by decide) (by decide)) fun v hv => ?_
    obtain ⟨a0, r0, rfl, a1, a2, h2⟩ := hv.cons
    obtain ⟨b0, r1, rfl, b1, b2, h3⟩ := h2.cons
    obtain rfl := h3.nil
    have i1 : itD [a0, b0] 0 = a0 := rfl
    have i2 : itD [a0, b0] 1 = b0 := rfl
    refine Gv.grd (by simp only [List.length_cons, List.length_nil]; omega) (Gv.bind (cell_gv s _ (by omega)) fun c' _ => Gv.grd (by simp only [List.length_cons, List.length_nil]; omega) ?_)
    rw [i1, i2]
    refine Gv.bind (some_gv b1 (by omega)) fun w hw => Gv.grd (by omega) (Gv.bnd fun y hy => .ok ⟨by rw [hy, List.length_append, p1]; rfl, fun u hu => ?_⟩)
    rw [hy] at hu
    rcases List.mem_append.mp hu with z | z
    · exact p.2 u z
    · rw [List.mem_singleton.mp z]
      exact ⟨by show 1 ≤ 1 + a0; omega, by show 1 + a0 ≤ 31; omega, by show w.length ≤ 3000; omega⟩
  · rw [rng_len] at p
    obtain ⟨p1, p2⟩ := p
    unfold F__law_units_r1
    refine Gv.bind (P := fun us => us.length ≤ 20 ∧ ∀ u ∈ us, Gd u) (.ite (fun c1 => Gv.bind (cell_gv s 40 (by decide)) fun c _ => .ite (fun _ => ?_) fun _ => .ok ⟨by omega, p2⟩) fun _ => .ok ⟨by omega, p2⟩) fun us p => .ok p
    have g1 : us[1]? = some us[1] := List.getElem?_eq_getElem (by omega)
    have gd := p2 _ (List.mem_of_getElem? g1)
    have it : itD us 1 = us[1] := by
      unfold itD atI ixN
      rw [if_pos (by decide), if_pos (by omega)]
      show (us[1]?).getD default = _
      rw [g1]
      rfl
    have hc := cut3 (us[1].2 ++ [0, 0, 1])
    rw [it]
    refine Gv.grd (by omega) (Gv.grd (by omega) (Gv.grd (by have := gd.2.2; show _ + 3 ≤ _; omega) (Gv.grd ⟨by decide, by decide, by rw [show Int.toNat 1000 = 1000 from rfl]; omega⟩ (Gv.grd (by omega) (Gv.bnd fun y hy => .ok ⟨?_, fun u hu => ?_⟩)))))
    · rw [hy]
      unfold setL
      rw [List.length_set]
      omega
    · rw [hy] at hu
      unfold setL at hu
      rcases List.mem_or_eq_of_mem_set hu with z | z
      · exact p2 u z
      · rw [z]
        refine ⟨gd.1, gd.2.1, ?_⟩
        show (repL _ 1000).length ≤ 3000
        rw [repL_len3, show Int.toNat 1000 = 1000 from rfl]
        omega
theorem large_ok (c : Int) : F__law_large c = .ok true := by
  refine Gv.get ?_
  unfold F__law_large
  refine Gv.ite (fun _ => ?_) fun _ => .ok rfl
  have zl : (repL [(0 : Int)] 65536).length = 65536 := by rw [repL_len3]; rfl
  generalize hz : repL [(0 : Int)] 65536 = Z at zl ⊢
  have wl : (wu (7, Z)).length ≤ 5 + 2 * Z.length := wu_len (7, Z)
  have rw1 := rd_wu (k := 7) (p := Z) (by decide) (by decide) (by omega)
  refine Gv.grd ⟨by decide, by decide, by rw [show Int.toNat 65536 = 65536 from rfl]; show 1 * 65536 ≤ _; omega⟩ (Gv.bind_eq (write_unit_ok (by decide) (by decide) (by omega)) (Gv.bind_eq (by rw [read_ok (by omega), noEr_ok]) ?_))
  rw [rw1]
  refine Gv.pos rfl (Gv.grd ⟨by show -(1 : Int) ≤ 0; decide, by show (0 : Int) < 1; decide⟩ (Gv.pos rfl (Gv.grd (by rw [zl]; show 65536 + 1 ≤ _; omega) (Gv.bind_eq (refused_ok (unit_long (by decide) (by decide) (by rw [List.length_append, zl]; show _ < 65536 + 1; omega)) (fun u hu => absurd hu List.not_mem_nil) (by show 0 ≤ 100; omega)) (.ok rfl)))))
theorem law_true (s : List Int) (hs : s.length ≤ 63) : F_law s = .ok true := by
  refine Gv.get ?_
  unfold F_law
  refine Gv.bind (units_gv s) fun us hu => ?_
  obtain ⟨hl, hg⟩ := hu
  have fb := flat_big hg
  refine Gv.bind (Gv.forS (P := fun i (t : List Int × List (Int × Int × List Int)) => t = ((us.take i).flatMap wu, rd ((us.take i).flatMap wu))) rfl fun i u t hx p => ?_) fun t p => ?_
  · subst p
    have hi := get_len hx
    have gu := hg u (List.mem_of_getElem? hx)
    have ht : ∀ v ∈ us.take i, Gd v := fun v hv => hg v (List.mem_of_mem_take hv)
    have fl := flat_big ht
    rw [List.length_take] at fl
    have wl := wu_len u
    have g3 := gu.2.2
    have len : ∀ o : List Int, (rd o).length ≤ o.length := fun o => by
      unfold rd zs
      rw [List.length_map, List.length_zip]
      have := st_len o
      omega
    have l1 := len ((us.take i).flatMap wu)
    have et : (us.take (i + 1)).flatMap wu = (us.take i).flatMap wu ++ wu u := by
      rw [List.take_add_one, hx, List.flatMap_append]
      simp
    have er : rd ((us.take (i + 1)).flatMap wu) = rd ((us.take i).flatMap wu) ++ [(((((us.take i).flatMap wu).length : Nat) : Int), u.1, u.2)] := by
      have hb : Begins (wu u) := .inr ⟨_, rfl⟩
      have eu : wu u = wu (u.1, u.2) := rfl
      rw [et, rd_app hb, eu, rd_wu gu.1 gu.2.1 (by omega)]
      show _ ++ [(0 + _, _, _)] = _
      rw [Int.zero_add]
    have el := es_len (p := u.2) (z := 0)
    unfold F_law_b1
    refine Gv.grd (by show (rd ((us.take i).flatMap wu)).length ≤ 1000000; omega) (Gv.bnd fun y hy => Gv.grd (by show ((us.take i).flatMap wu).length + 4 ≤ 1000000; omega) (Gv.grd (by show _ + 1 ≤ _; omega) (Gv.bind_eq (law_escape_ok (by omega)) (Gv.grd (by simp only [List.length_append, List.length_cons, List.length_nil]; omega) (.ok ?_)))))
    rw [hy, er, et]
    refine Prod.ext ?_ rfl
    show (_ ++ [0, 0, 1, u.1]) ++ (es 0 u.2 ++ [128]) = _ ++ wu u
    rw [List.append_assoc]
    rfl
  · rw [List.take_length] at p
    subst p
    unfold F_law_r1
    refine Gv.bind_eq (mapA_pure0 (g := id) (fun x _ => rfl) (by omega)) ?_
    rw [List.map_id]
    refine Gv.bind_eq (write_big hg (by omega)) (Gv.pos rfl (Gv.pos rfl (Gv.bind_eq (by rw [read_ok (by omega), noEr_ok]) (Gv.pos rfl (Gv.pos rfl (Gv.bind_eq (forR_unit fun u hu => ?_) ?_))))))
    · have hu2 : u ∈ us := by
        unfold cutL at hu
        exact List.mem_of_mem_drop (List.mem_of_mem_take hu)
      have gu := hg u hu2
      have g3 := gu.2.2
      have el := es_len (p := u.2) (z := 0)
      refine Gv.get ?_
      unfold F_law_b3
      exact Gv.bind_eq (write_unit_ok gu.1 gu.2.1 (by omega)) (Gv.grd (by show _ + 1 ≤ _; omega) (Gv.bind_eq (law_escape_ok (by omega)) (Gv.grd (by simp only [List.length_append, List.length_cons, List.length_nil]; omega) (Gv.pos rfl (.ok rfl)))))
    · show Gv (F_law_r3 s us) _
      unfold F_law_r3
      refine Gv.bind (cell_gv s 41 (by decide)) fun c _ => Gv.bind (draws_gv c [4, 1000] (by decide) (by decide)) fun v hv => ?_
      obtain ⟨a0, r0, rfl, a1, a2, h2⟩ := hv.cons
      obtain ⟨b0, r1, rfl, b1, b2, h3⟩ := h2.cons
      obtain rfl := h3.nil
      have i1 : itD [a0, b0] 0 = a0 := rfl
      have i2 : itD [a0, b0] 1 = b0 := rfl
      have gl : ∀ k : Int, 0 ≤ k → k < 2 → -(([a0, b0] : List Int).length : Int) ≤ k ∧ k < (([a0, b0] : List Int).length : Int) := fun k k0 k1 => by simp only [List.length_cons, List.length_nil]; omega
      refine Gv.grd (gl 1 (by decide) (by decide)) (Gv.grd (gl 1 (by decide) (by decide)) (Gv.grd (gl 0 (by decide) (by decide)) ?_))
      rw [i1, i2]
      refine Gv.grd (by simp only [List.length_cons, List.length_nil]; omega) (Gv.bnd fun kind hk => ?_)
      have bad : ¬ (1 ≤ kind ∧ kind ≤ 31) := by
        have cs : a0 = 0 ∨ a0 = 1 ∨ a0 = 2 ∨ a0 = 3 := by omega
        rcases cs with z | z | z | z
        · subst z
          have : kind = 0 := hk
          omega
        · subst z
          have : kind = 32 := hk
          omega
        · subst z
          have : kind = -b0 := hk
          omega
        · subst z
          have : kind = 32 + b0 := hk
          omega
      refine Gv.bind (cell_gv s 42 (by decide)) fun c2 _ => Gv.bind (some_gv (by decide) (by decide)) fun w _ => Gv.bind_eq (refused_ok (unit_er bad) (fun u hu => hg u (by
        unfold cutL at hu
        exact List.mem_of_mem_drop (List.mem_of_mem_take hu))) (by have := cutL_len us none (some 2); omega)) (Gv.pos rfl (Gv.bind (cell_gv s 43 (by decide)) fun c3 _ => Gv.bind_eq (large_ok c3) (.ok rfl)))

end Vx
namespace Vx
open PySem PySem.Spec PyProof.Rows L2
def topS (i : Nat) : Stmt := PySem.Challenge.pw_thaumatrope_k09_units_written_and_read.main.body.getD i (.Pass ⟨0, 0, 0, 0⟩)
abbrev s__law_draws : Stmt := topS 17
abbrev s__law_cell : Stmt := topS 16
abbrev s__law_some : Stmt := topS 20
abbrev s__law_units : Stmt := topS 21
abbrev s_escape : Stmt := topS 8
abbrev s_write_unit : Stmt := topS 10
abbrev s_write_units : Stmt := topS 11
abbrev s__law_refused : Stmt := topS 22
abbrev s__starts : Stmt := topS 13
abbrev s_unescape : Stmt := topS 9
abbrev s__read_raw : Stmt := topS 14
abbrev s_read_units : Stmt := topS 12
abbrev s__law_large : Stmt := topS 23
abbrev s__law_escape : Stmt := topS 18
abbrev s_law : Stmt := topS 24
structure Ads where
  x_CodecError : Addr
  x_OutOfRange : Addr
  z0 : Addr
def excA (AD : Ads) : Nat → Addr
  | 0 => AD.x_CodecError
  | 1 => AD.x_OutOfRange
  | _ => AD.z0
structure Txt (K : PySem.W.Frag) (mg : Str → Option Value) (AD : Ads) : Prop where
  b_abs : mg "abs" = none
  b_int : mg "int" = none
  b_len : mg "len" = none
  b_range : mg "range" = none
  b_min : mg "min" = none
  g_ESCAPE : ∃ u, mg "ESCAPE" = some u ∧ RelV (V.int 3) u
  g_GREATEST_KIND : ∃ u, mg "GREATEST_KIND" = some u ∧ RelV (V.int 31) u
  g_MOST_OCTETS : ∃ u, mg "MOST_OCTETS" = some u ∧ RelV (V.int 65536) u
  g_STOP : ∃ u, mg "STOP" = some u ∧ RelV (V.int 128) u
  b_list : mg "list" = none
  b_isinstance : mg "isinstance" = none
  b_zip : mg "zip" = none
  xg_OutOfRange : mg "OutOfRange" = some (.ref AD.x_OutOfRange)
  xx_OutOfRange : PySem.W.excIn K AD.x_OutOfRange [.type "ValueError", .type "Exception", .type "BaseException", .type "object"] "ValueError.__new__" = true
  xk_OutOfRange : PySem.W.keepIn K (.ref AD.x_OutOfRange) = true
  xb_OutOfRange : PySem.W.subIn K (.ref AD.x_OutOfRange) (.type "BaseException") = some true
  xt_OutOfRange : PySem.W.typeIn K (.ref AD.x_OutOfRange) = some (.type "type")
  xg_CodecError : mg "CodecError" = some (.ref AD.x_CodecError)
  xx_CodecError : PySem.W.excIn K AD.x_CodecError [.type "ValueError", .type "Exception", .type "BaseException", .type "object"] "ValueError.__new__" = true
  xk_CodecError : PySem.W.keepIn K (.ref AD.x_CodecError) = true
  xb_CodecError : PySem.W.subIn K (.ref AD.x_CodecError) (.type "BaseException") = some true
  xt_CodecError : PySem.W.typeIn K (.ref AD.x_CodecError) = some (.type "type")
  xm_OutOfRange_OutOfRange : PySem.W.exmOne K (.ref AD.x_OutOfRange) (.ref AD.x_OutOfRange) = some true
  xo_OutOfRange_CodecError : PySem.W.kitOne K (.ref AD.x_OutOfRange) (.ref AD.x_CodecError) = some true
  xc_OutOfRange : ExcC K AD.x_OutOfRange
abbrev pat__law_draws_0 : Pat := (2, [], fun vs _ => vs)
abbrev pats__law_draws : List Pat := [pat__law_draws_0]
abbrev pat__law_cell_0 : Pat := (2, [], fun vs _ => vs)
abbrev pats__law_cell : List Pat := [pat__law_cell_0]
abbrev pat__law_some_0 : Pat := (2, [], fun vs _ => vs)
abbrev pats__law_some : List Pat := [pat__law_some_0]
abbrev pat__law_units_0 : Pat := (1, [], fun vs _ => vs)
abbrev pats__law_units : List Pat := [pat__law_units_0]
abbrev pat_escape_0 : Pat := (1, [], fun vs _ => vs)
abbrev pats_escape : List Pat := [pat_escape_0]
abbrev pat_write_unit_0 : Pat := (2, [], fun vs _ => vs)
abbrev pats_write_unit : List Pat := [pat_write_unit_0]
abbrev pat_write_units_0 : Pat := (1, [], fun vs _ => vs)
abbrev pats_write_units : List Pat := [pat_write_units_0]
abbrev pat__law_refused_0 : Pat := (3, [], fun vs _ => vs)
abbrev pats__law_refused : List Pat := [pat__law_refused_0]
abbrev pat__starts_0 : Pat := (1, [], fun vs _ => vs)
abbrev pats__starts : List Pat := [pat__starts_0]
abbrev pat_unescape_0 : Pat := (1, [], fun vs _ => vs)
abbrev pats_unescape : List Pat := [pat_unescape_0]
abbrev pat__read_raw_0 : Pat := (1, [], fun vs _ => vs)
abbrev pats__read_raw : List Pat := [pat__read_raw_0]
abbrev pat_read_units_0 : Pat := (1, [], fun vs _ => vs)
abbrev pats_read_units : List Pat := [pat_read_units_0]
abbrev pat__law_large_0 : Pat := (1, [], fun vs _ => vs)
abbrev pats__law_large : List Pat := [pat__law_large_0]
abbrev pat__law_escape_0 : Pat := (1, [], fun vs _ => vs)
abbrev pats__law_escape : List Pat := [pat__law_escape_0]
abbrev pats_law : List Pat := []
def sp__law_draws (K : PySem.W.Frag) (AD : Ads) : Sp := fun vs H Q E => ∃ (G : Hp) (cell' : Int) (a_limits : Addr) (limits' : List Int), vs = [.int cell', .ref a_limits] ∧ Same G H ∧ (hideL [] H) a_limits = some (.lst ((limits' : List Int).map V.int)) ∧ cW (F__law_draws cell' limits') (fun v => ∀ p H', H p = none → Same H H' → H' p = some (.lst (v.map V.int)) → Q (.ref p) H') (fun e => ∀ H', Same H H' → E (.ref (excA AD e)) none H')
def sp__law_cell (K : PySem.W.Frag) (AD : Ads) : Sp := fun vs H Q E => ∃ (G : Hp) (a_script : Addr) (script' : List Int) (k' : Int), vs = [.ref a_script, .int k'] ∧ Same G H ∧ SqL K H a_script ((script' : List Int).map V.int) ∧ cW (F__law_cell script' k') (fun v => Q (.int v) H) (fun e => E (.ref (excA AD e)) none H)
def sp__law_some (K : PySem.W.Frag) (AD : Ads) : Sp := fun vs H Q E => ∃ (G : Hp) (cell' : Int) (size' : Int), vs = [.int cell', .int size'] ∧ Same G H ∧ cW (F__law_some cell' size') (fun v => ∀ p H', H p = none → Same H H' → H' p = some (.lst (v.map V.int)) → Q (.ref p) H') (fun e => ∀ H', Same H H' → E (.ref (excA AD e)) none H')
def sp__law_units (K : PySem.W.Frag) (AD : Ads) : Sp := fun vs H Q E => ∃ (G : Hp) (a_script : Addr) (script' : List Int), vs = [.ref a_script] ∧ Same G H ∧ SqL K H a_script ((script' : List Int).map V.int) ∧ cW (F__law_units script') (fun v => ∀ p vs H' G', H p = none → Same H H' → Same G G' → Same G' H' → (∀ b, H b ≠ none → G b = none → G' b = none) → G' p = none → H' p = some (.lst vs) → RpAll G' vs (v.map (encT2 PyData.int (encL PyData.int))) → Q (.ref p) H') (fun e => ∀ H', Same H H' → E (.ref (excA AD e)) none H')
def sp_escape (K : PySem.W.Frag) (AD : Ads) : Sp := fun vs H Q E => ∃ (G : Hp) (a_octets : Addr) (octets' : List Int), vs = [.ref a_octets] ∧ Same G H ∧ (hideL [] H) a_octets = some (.lst ((octets' : List Int).map V.int)) ∧ cW (F_escape octets') (fun v => ∀ p H', H p = none → Same H H' → H' p = some (.lst (v.map V.int)) → Q (.ref p) H') (fun e => ∀ H', Same H H' → E (.ref (excA AD e)) none H')
def sp_write_unit (K : PySem.W.Frag) (AD : Ads) : Sp := fun vs H Q E => ∃ (G : Hp) (kind' : Int) (a_payload : Addr) (payload' : List Int), vs = [.int kind', .ref a_payload] ∧ Same G H ∧ (hideL [] H) a_payload = some (.lst ((payload' : List Int).map V.int)) ∧ cW (F_write_unit kind' payload') (fun v => ∀ p H', H p = none → Same H H' → H' p = some (.lst (v.map V.int)) → Q (.ref p) H') (fun e => ∀ H', Same H H' → E (.ref (excA AD e)) none H')
def sp_write_units (K : PySem.W.Frag) (AD : Ads) : Sp := fun vs H Q E => ∃ (G : Hp) (v_units : V) (units' : (List (Int × (List Int)))), vs = [v_units] ∧ Same G H ∧ Rp (hideL [] H) v_units ((encL (encT2 PyData.int (encL PyData.int))) units') ∧ cW (F_write_units units') (fun v => ∀ p H', H p = none → Same H H' → H' p = some (.lst (v.map V.int)) → Q (.ref p) H') (fun e => ∀ H', Same H H' → E (.ref (excA AD e)) none H')
def sp__law_refused (K : PySem.W.Frag) (AD : Ads) : Sp := fun vs H Q E => ∃ (G : Hp) (kind' : Int) (a_payload : Addr) (payload' : List Int) (v_units : V) (units' : (List (Int × (List Int)))), vs = [.int kind', .ref a_payload, v_units] ∧ Same G H ∧ G a_payload = some (.lst ((payload' : List Int).map V.int)) ∧ Rp G v_units ((encL (encT2 PyData.int (encL PyData.int))) units') ∧ cW (F__law_refused kind' payload' units') (fun v => ∀ H', Same H H' → Q (.bl v) H') (fun e => ∀ H', Same H H' → E (.ref (excA AD e)) none H')
def sp__starts (K : PySem.W.Frag) (AD : Ads) : Sp := fun vs H Q E => ∃ (G : Hp) (a_octets : Addr) (octets' : List Int), vs = [.ref a_octets] ∧ Same G H ∧ (hideL [] H) a_octets = some (.lst ((octets' : List Int).map V.int)) ∧ cW (F__starts octets') (fun v => ∀ p H', H p = none → Same H H' → H' p = some (.lst (v.map V.int)) → Q (.ref p) H') (fun e => ∀ H', Same H H' → E (.ref (excA AD e)) none H')
def sp_unescape (K : PySem.W.Frag) (AD : Ads) : Sp := fun vs H Q E => ∃ (G : Hp) (a_octets : Addr) (octets' : List Int), vs = [.ref a_octets] ∧ Same G H ∧ (hideL [] H) a_octets = some (.lst ((octets' : List Int).map V.int)) ∧ cW (F_unescape octets') (fun v => ∀ p H', H p = none → Same H H' → H' p = some (.lst (v.map V.int)) → Q (.ref p) H') (fun e => ∀ H', Same H H' → E (.ref (excA AD e)) none H')
def sp__read_raw (K : PySem.W.Frag) (AD : Ads) : Sp := fun vs H Q E => ∃ (G : Hp) (a_raw : Addr) (raw' : List Int), vs = [.ref a_raw] ∧ Same G H ∧ (hideL [] H) a_raw = some (.lst ((raw' : List Int).map V.int)) ∧ cW (F__read_raw raw') (fun v => ∀ u H' G', Same H H' → Same G G' → Same G' H' → (∀ b, H b ≠ none → G b = none → G' b = none) → Rp G' u ((encT2 PyData.int (encL PyData.int)) v) → Q u H') (fun e => ∀ H', Same H H' → E (.ref (excA AD e)) none H')
def sp_read_units (K : PySem.W.Frag) (AD : Ads) : Sp := fun vs H Q E => ∃ (G : Hp) (a_octets : Addr) (octets' : List Int), vs = [.ref a_octets] ∧ Same G H ∧ (hideL [] H) a_octets = some (.lst ((octets' : List Int).map V.int)) ∧ cW (F_read_units octets') (fun v => ∀ p vs H' G', H p = none → Same H H' → Same G G' → Same G' H' → (∀ b, H b ≠ none → G b = none → G' b = none) → G' p = none → H' p = some (.lst vs) → RpAll G' vs (v.map (encT3 PyData.int PyData.int (encL PyData.int))) → Q (.ref p) H') (fun e => False)
def sg_read_units (K : PySem.W.Frag) (AD : Ads) : SpG := fun vs H Q E => ∃ (G : Hp) (a_octets : Addr) (octets' : List Int), vs = [.ref a_octets] ∧ Same G H ∧ (hideL [] H) a_octets = some (.lst ((octets' : List Int).map V.int)) ∧ cW (F_read_units octets') (fun v => ∀ ys H' G', Same H H' → Same G G' → Same G' H' → (∀ b, H b ≠ none → G b = none → G' b = none) → RpAll G' ys (v.map (encT3 PyData.int PyData.int (encL PyData.int))) → Q ys H') (fun e => False)
theorem im_read_units {K : PySem.W.Frag} {AD : Ads} (vs : List V) (H : Hp) (Q : VK) (E E2 : XK) (h : sp_read_units K AD vs H Q E) : sg_read_units K AD vs H (fun out H2 => ∀ p, H2 p = none → Q (.ref p) (upd H2 p (.lst out))) E2 := by
  obtain ⟨G, a_octets, octets', e_, f0_, f1_, hw⟩ := h
  exact ⟨G, a_octets, octets', e_, f0_, f1_, Vy.cW_imp hw (fun v h => Vy.gen_top h) fun _ z => z⟩
def sp__law_large (K : PySem.W.Frag) (AD : Ads) : Sp := fun vs H Q E => ∃ (G : Hp) (cell' : Int), vs = [.int cell'] ∧ Same G H ∧ cW (F__law_large cell') (fun v => ∀ H', Same H H' → Q (.bl v) H') (fun e => ∀ H', Same H H' → E (.ref (excA AD e)) none H')
def sp__law_escape (K : PySem.W.Frag) (AD : Ads) : Sp := fun vs H Q E => ∃ (G : Hp) (a_octets : Addr) (octets' : List Int), vs = [.ref a_octets] ∧ Same G H ∧ (hideL [] H) a_octets = some (.lst ((octets' : List Int).map V.int)) ∧ cW (F__law_escape octets') (fun v => ∀ p H', H p = none → Same H H' → H' p = some (.lst (v.map V.int)) → Q (.ref p) H') (fun e => ∀ H', Same H H' → E (.ref (excA AD e)) none H')
def sp_law (K : PySem.W.Frag) (AD : Ads) : Sp := fun vs H Q E => ∃ (a_script : Addr) (script : List Int), vs = [.ref a_script] ∧ SqL K H a_script (script.map V.int) ∧ cW (F_law script) (fun v => v = true) (fun _ => False) ∧ ∀ H', Q (.bl true) H'
section
variable {P : Program} {w : World} {K : PySem.W.Frag} {mg : Str → Option Value} {base : Heap} {AD : Ads}
abbrev N__law_draws : List Str := ["cell", "limits", "found", "rest", "state", "free", "limit"]
theorem sc__law_draws : FnScope N__law_draws ["cell", "limits"] (defScope s__law_draws) := ⟨rfl, rfl, rfl, by decide +kernel, rfl, by decide +kernel, by decide +kernel⟩
theorem ok__law_draws (D : DefX K mg "_law_draws" s__law_draws ["cell", "limits"] pats__law_draws) (T : Txt K mg AD)  : CalX P w K mg base 1 "_law_draws" (sp__law_draws K AD) pats__law_draws := by
  refine D.ok sc__law_draws (fun vs H Q E h => ?_) (fun f cdv A_ outer s H vs Q E hr h => ?_)
  · obtain ⟨G, cell', a_limits, limits', rfl, _⟩ := h
    rfl
  · obtain ⟨G, cell', a_limits, limits', rfl, sG, q_limits, hw⟩ := h
    refine ⟨_, (pss_cons (ps_set (i := 2) sc__law_draws.nd rfl (Or.inl rfl) (pe_lst pa_nil))
      (pss_cons (ps_set (i := 3) sc__law_draws.nd rfl (Or.inl rfl) (pe_callB call_abs (by rfl) T.b_abs (by decide +kernel) (pa_cons (pe_callTy call_int1 (by rfl) T.b_int (by decide +kernel) (pa_cons (pv 0) pa_nil)) pa_nil)))
      (pss_cons (ps_set (i := 4) sc__law_draws.nd rfl (Or.inl rfl) (pe_op op_mod (pe_callTy call_int1 (by rfl) T.b_int (by decide +kernel) (pa_cons (pv 3) pa_nil)) pe_int))
      (pss_cons (ps_set (i := 5) sc__law_draws.nd rfl (Or.inl rfl) (pe_or (pe_cmp (pc_lt (pv 0) pe_int)) (pe_one (pe_cmp (pc_ge (pv 0) (pe_op op_pow pe_int pe_int))))))
      (pss_cons (ps_for (passes_of rfl) rfl (pi_listK (K := K) (pv 1)) (pg_name (i := 6) sc__law_draws.nd rfl (Or.inl rfl)) (pss_one (ps_if (PW.pt (pw_and (pt_val (pv 5)) (pw_and1 (pt_cmp (pc_gt (pv 3) pe_int))))) (pss_cons (ps_expr (pe_bm PySem.F.plainAttrs_list PySem.F.slot_list_append PySem.F.type_list_append mt_append (pv 2) (pa_cons (pe_op op_mod (pe_callTy call_int1 (by rfl) T.b_int (by decide +kernel) (pa_cons (pv 3) pa_nil)) (pv 6)) pa_nil)))
      (pss_one (ps_set (i := 3) sc__law_draws.nd rfl (Or.inl rfl) (pe_op op_fdivW (pv 3) (pv 6))))) (pss_cons (ps_set (i := 4) sc__law_draws.nd rfl (Or.inl rfl) (pe_op op_mod (pe_callTy call_int1 (by rfl) T.b_int (by decide +kernel) (pa_cons (pe_op op_add (pe_op op_mul (pv 4) pe_int) pe_int) pa_nil)) pe_int))
      (pss_cons (ps_set (i := 4) sc__law_draws.nd rfl (Or.inl rfl) (pe_op op_mod (pe_callTy call_int1 (by rfl) T.b_int (by decide +kernel) (pa_cons (pe_op op_add (pe_op op_mul (pv 4) pe_int) pe_int) pa_nil)) pe_int))
      (pss_one (ps_expr (pe_bm PySem.F.plainAttrs_list PySem.F.slot_list_append PySem.F.type_list_append mt_append (pv 2) (pa_cons (pe_op op_mod (pe_callTy call_int1 (by rfl) T.b_int (by decide +kernel) (pa_cons (pe_op op_fdivW (pv 4) pe_int) pa_nil)) (pv 6)) pa_nil)))))))))
      (pss_one (ps_ret (pv 2)))))))), ?_⟩
    obtain ⟨KK, EE, hK0, hE, hw⟩ := cW_gen hw
    have S0 := Sep.startG sG
    unfold F__law_draws at hw
    refine ⟨(by show 0 ≤ sizeLine; decide), fun p1 n2 => ?_⟩
    generalize g3 : upd H p1 _ = H4
    obtain ⟨e5, h6⟩ := gen_new n2 g3
    have h7 : H4 p1 = some (.lst ((([] : (List Int)) : (List Int)).map V.int)) := h6
    have fr8 := S0.free n2
    have S9 := S0.new n2 e5 h7 fr8
    refine ⟨_, rfl, .inl ⟨_, rfl, ?_⟩⟩
    refine ⟨_, rfl, ?_⟩
    have hw := cW_bnd hw
    refine ⟨_, rfl, .inl ⟨_, rfl, ?_⟩⟩
    refine ⟨_, _, rfl, rfl, (show (0 : Int) < 2147483647 by decide), ?_⟩
    have hw := cW_bnd hw
    refine vv_or (ta := (tLt (tVar 0) (tC (V.int 0)))) (tb := (tGe (tVar 0) (tOp (rI CPow fun i j => V.int (i ^ j.toNat)) (tC (V.int 10)) (tC (V.int 18))))) (a := decide (cell' < 0)) (b := decide (((10 : Int) ^ Int.toNat 18) ≤ cell')) ?ha12 ?hb13 _ ?_
    case ha12 => exact (vv_cmp (val_var rfl) val_c (fun Q q => ⟨_, _, rfl, rfl, q⟩))
    case hb13 => exact (vv_cmp (val_var rfl) (val_op val_c val_c (fun Q q => ⟨_, _, rfl, rfl, ⟨by decide, by decide, by decide⟩, q⟩)) (fun Q q => ⟨_, _, rfl, rfl, q⟩))
    have hw := cW_bnd hw
    obtain ⟨K16, hK17, hw⟩ := cW_push hw
    refine ⟨_, rfl, _, rfl, ⟨_, (SqL.of (S9.bM _ _ q_limits))⟩, for_list (K := K) (a := a_limits) (xs := (limits' : List Int).map V.int) (fun i σ H' => ∃ (found_18 : (List Int)) (rest_19 : Int) (state_20 : Int) (u21 : Option V) (G' : Hp), σ = [some (V.int (cell')), some (V.ref a_limits), some (V.ref p1), some (V.int rest_19), some (V.int state_20), some (V.bl ((decide (cell' < 0) || decide (((10 : Int) ^ Int.toNat 18) ≤ cell')))), u21] ∧ Same G G' ∧ Sep [] H G G' H' [p1] ∧ H' p1 = some (.lst ((found_18 : (List Int)).map V.int)) ∧ cW (forS (List.drop i (limits')) (found_18, rest_19, state_20) (fun s x => F__law_draws_b1 ((decide (cell' < 0) || decide (((10 : Int) ^ Int.toNat 18) ≤ cell'))) (s.1) (s.2.1) (s.2.2) x)) K16 EE) ?_ ?_ ?_ ?_⟩
    · exact ⟨(([] : (List Int))), ((if cell' < 0 then -cell' else cell')), (((if cell' < 0 then -cell' else cell') % 2147483647)), _, _, rfl, (Same.refl _), S9, h7, hw⟩
    · intro i σ H22 _ hw
      obtain ⟨found_18, rest_19, state_20, u21, G25, rfl, eG26, S23, h24, hw⟩ := hw
      exact (SqL.of (S23.bM _ _ q_limits))
    · intro i x σ H27 hj hw
      obtain ⟨found_18, rest_19, state_20, u21, G30, rfl, eG31, S28, h29, hw⟩ := hw
      obtain ⟨x32, hx, rfl⟩ := map_get hj
      have hw := cW_forS hx hw
      have hw : cW (F__law_draws_b1 ((decide (cell' < 0) || decide (((10 : Int) ^ Int.toNat 18) ≤ cell'))) (found_18) (rest_19) (state_20) (x32)) _ EE := hw
      unfold F__law_draws_b1 at hw
      obtain ⟨K36, hK37, hw⟩ := cW_name hw
      refine ⟨_, rfl, _, rfl, ?_⟩
      refine iteB (fun c39 => ?_) (fun c39 => ?_)
      · have hw := cW_pos c39 hw
        refine ⟨_, rfl, _, _, rfl, rfl, _, rfl, ?_⟩
        refine iteD (fun c40 => ?_) (fun c40 => ?_)
        · have hw := cW_pos c40 hw
          refine ⟨_, rfl, (.inl ⟨rfl, _, SqL.of h29⟩), _, rfl, .inl ⟨_, rfl, ?_⟩⟩
          obtain ⟨g41, hw⟩ := cW_grd hw
          obtain ⟨g42, hw⟩ := cW_grd hw
          refine ⟨_, rfl, _, _, rfl, rfl, g41, _, _, _, rfl, rfl, h29, (app_lenM g42), ?_⟩
          generalize g43 : upd H27 p1 _ = H44
          obtain ⟨x45, h46⟩ := gen_mut g43
          have h47 : H44 p1 = some (.lst (((found_18) ++ [(rest_19 % x32)] : (List Int)).map V.int)) := snoc_map h46
          have S48 := S28.mut1 x45 (.head _) h47
          have hw := cW_bnd hw
          obtain ⟨g50, hw⟩ := cW_grd hw
          refine ⟨_, rfl, _, rfl, _, _, rfl, rfl, (divW_small g50.1 g50.2), ?_⟩
          have hw := cW_bnd hw
          have hw := cW_ok hw
          have hw := hK37 _ hw
          exact ⟨((found_18) ++ [(rest_19 % x32)]), ((rest_19 / x32)), (state_20), _, _, rfl, eG31, S48, h47, hw⟩
        · have hw := cW_neg c40 hw
          refine ⟨_, rfl, _, _, rfl, rfl, (.inr ⟨by decide, by decide⟩), _, _, rfl, rfl, .inl ⟨_, rfl, ?_⟩⟩
          refine ⟨_, _, rfl, rfl, (show (0 : Int) < 2147483647 by decide), ?_⟩
          have hw := cW_bnd hw
          refine ⟨_, rfl, _, _, rfl, rfl, (.inr ⟨by decide, by decide⟩), _, _, rfl, rfl, .inl ⟨_, rfl, ?_⟩⟩
          refine ⟨_, _, rfl, rfl, (show (0 : Int) < 2147483647 by decide), ?_⟩
          have hw := cW_bnd hw
          refine ⟨_, rfl, (.inl ⟨rfl, _, SqL.of h29⟩), _, rfl, _, _, rfl, rfl, (divW_lit (by decide) (by decide)), .inl ⟨_, rfl, ?_⟩⟩
          obtain ⟨g54, hw⟩ := cW_grd hw
          obtain ⟨g55, hw⟩ := cW_grd hw
          refine ⟨_, rfl, _, _, rfl, rfl, g54, _, _, _, rfl, rfl, h29, (app_lenM g55), ?_⟩
          generalize g56 : upd H27 p1 _ = H57
          obtain ⟨x58, h59⟩ := gen_mut g56
          have h60 : H57 p1 = some (.lst (((found_18) ++ [((((((((state_20 * 48271) + 11) % 2147483647) * 69621) + 7) % 2147483647) / 13) % x32)] : (List Int)).map V.int)) := snoc_map h59
          have S61 := S28.mut1 x58 (.head _) h60
          have hw := cW_bnd hw
          have hw := cW_ok hw
          have hw := hK37 _ hw
          exact ⟨((found_18) ++ [((((((((state_20 * 48271) + 11) % 2147483647) * 69621) + 7) % 2147483647) / 13) % x32)]), (rest_19), (((((((state_20 * 48271) + 11) % 2147483647) * 69621) + 7) % 2147483647)), _, _, rfl, eG31, S61, h60, hw⟩
      · have hw := cW_negB c39 hw
        refine iteF ?_
        refine ⟨_, rfl, _, _, rfl, rfl, (.inr ⟨by decide, by decide⟩), _, _, rfl, rfl, .inl ⟨_, rfl, ?_⟩⟩
        refine ⟨_, _, rfl, rfl, (show (0 : Int) < 2147483647 by decide), ?_⟩
        have hw := cW_bnd hw
        refine ⟨_, rfl, _, _, rfl, rfl, (.inr ⟨by decide, by decide⟩), _, _, rfl, rfl, .inl ⟨_, rfl, ?_⟩⟩
        refine ⟨_, _, rfl, rfl, (show (0 : Int) < 2147483647 by decide), ?_⟩
        have hw := cW_bnd hw
        refine ⟨_, rfl, (.inl ⟨rfl, _, SqL.of h29⟩), _, rfl, _, _, rfl, rfl, (divW_lit (by decide) (by decide)), .inl ⟨_, rfl, ?_⟩⟩
        obtain ⟨g65, hw⟩ := cW_grd hw
        obtain ⟨g66, hw⟩ := cW_grd hw
        refine ⟨_, rfl, _, _, rfl, rfl, g65, _, _, _, rfl, rfl, h29, (app_lenM g66), ?_⟩
        generalize g67 : upd H27 p1 _ = H68
        obtain ⟨x69, h70⟩ := gen_mut g67
        have h71 : H68 p1 = some (.lst (((found_18) ++ [((((((((state_20 * 48271) + 11) % 2147483647) * 69621) + 7) % 2147483647) / 13) % x32)] : (List Int)).map V.int)) := snoc_map h70
        have S72 := S28.mut1 x69 (.head _) h71
        have hw := cW_bnd hw
        have hw := cW_ok hw
        have hw := hK37 _ hw
        exact ⟨((found_18) ++ [((((((((state_20 * 48271) + 11) % 2147483647) * 69621) + 7) % 2147483647) / 13) % x32)]), (rest_19), (((((((state_20 * 48271) + 11) % 2147483647) * 69621) + 7) % 2147483647)), _, _, rfl, eG31, S72, h71, hw⟩
    · intro σ H74 hw
      obtain ⟨found_18, rest_19, state_20, u21, G77, rfl, eG78, S75, h76, hw⟩ := hw
      have hw := hK17 _ (cW_forS0 (by rw [List.length_map]) hw)
      have hw : cW (F__law_draws_r1  (found_18) (rest_19) (state_20)) _ EE := hw
      unfold F__law_draws_r1 at hw
      refine ⟨_, rfl, ?_⟩
      have hw := cW_ok hw
      exact hK0 _ hw _ _ fr8 S75.b0 h76

abbrev N__law_cell : List Str := ["script", "k"]
theorem sc__law_cell : FnScope N__law_cell ["script", "k"] (defScope s__law_cell) := ⟨rfl, rfl, rfl, by decide +kernel, rfl, by decide +kernel, by decide +kernel⟩
theorem ok__law_cell (D : DefX K mg "_law_cell" s__law_cell ["script", "k"] pats__law_cell) (T : Txt K mg AD)  : CalX P w K mg base 1 "_law_cell" (sp__law_cell K AD) pats__law_cell := by
  refine D.ok sc__law_cell (fun vs H Q E h => ?_) (fun f cdv A_ outer s H vs Q E hr h => ?_)
  · obtain ⟨G, a_script, script', k', rfl, _⟩ := h
    rfl
  · obtain ⟨G, a_script, script', k', rfl, sG, q_script, hw⟩ := h
    refine ⟨_, (pss_cons (ps_if (pt_cmp (pc_lt (pv 1) (pe_callB (call_lenLiK (K := K)) (by rfl) T.b_len (by decide +kernel) (pa_cons (pv 0) pa_nil)))) (pss_one (ps_ret (pe_callTy call_int1 (by rfl) T.b_int (by decide +kernel) (pa_cons (pe_ix (ix_listK (K := K)) (pv 0) (pv 1) (fun _ _ => rfl)) pa_nil)))) pss_nil)
      (pss_one (ps_ret pe_int))), ?_⟩
    obtain ⟨KK, EE, hK0, hE, hw⟩ := cW_gen hw
    have S0 := Sep.startG sG
    unfold F__law_cell at hw
    refine ⟨_, rfl, _, rfl, _, _, rfl, (S0.b0.seq q_script), _, _, rfl, rfl, _, rfl, ?_⟩
    refine iteD (fun c82 => ?_) (fun c82 => ?_)
    · have hw := cW_pos c82 hw
      obtain ⟨g83, hw⟩ := cW_grd hw
      refine ⟨_, rfl, _, rfl, _, _, _, _, rfl, rfl, (S0.b0.seq q_script), (atI_map g83), .inl ⟨_, rfl, ?_⟩⟩
      have hw := cW_ok hw
      exact hK0 _ hw
    · have hw := cW_neg c82 hw
      have hw := cW_ok hw
      exact hK0 _ hw

abbrev N__law_some : List Str := ["cell", "size", "kind", "octets", "octet"]
theorem sc__law_some : FnScope N__law_some ["cell", "size"] (defScope s__law_some) := ⟨rfl, rfl, rfl, by decide +kernel, rfl, by decide +kernel, by decide +kernel⟩
theorem ok__law_some (D : DefX K mg "_law_some" s__law_some ["cell", "size"] pats__law_some) (T : Txt K mg AD) (c__law_draws : CalX P w K mg base 1 "_law_draws" (sp__law_draws K AD) pats__law_draws) : CalX P w K mg base 2 "_law_some" (sp__law_some K AD) pats__law_some := by
  refine D.ok sc__law_some (fun vs H Q E h => ?_) (fun f cdv A_ outer s H vs Q E hr h => ?_)
  · obtain ⟨G, cell', size', rfl, _⟩ := h
    rfl
  · obtain ⟨G, cell', size', rfl, sG, hw⟩ := h
    refine ⟨_, (pss_cons (ps_set (i := 2) sc__law_some.nd rfl (Or.inl rfl) (pe_op op_mod (pe_callTy call_int1 (by rfl) T.b_int (by decide +kernel) (pa_cons (pv 0) pa_nil)) pe_int))
      (pss_cons (ps_set (i := 3) sc__law_some.nd rfl (Or.inl rfl) (vx_callX c__law_draws pat__law_draws_0 (.head _) hr (by decide) (takes_of rfl rfl rfl rfl) rfl (pa_cons (pe_op op_fdivW (pe_callTy call_int1 (by rfl) T.b_int (by decide +kernel) (pa_cons (pv 0) pa_nil)) pe_int) (pa_cons (pe_op op_rep (pe_lst (pa_cons pe_int pa_nil)) (pv 1)) pa_nil)) pk_nil))
      (C8.pss_cut (ps_if (pt_cmp (pc_eqI (pv 2) pe_int)) (pss_one (ps_setLc (i := 3) (y := "octets") rfl sc__law_some.nd rfl rfl (sw_true rfl rfl rfl (by decide +kernel)) (own := [("octet", 4)]) (g := gName 4) (pi_listK (K := K) (pv 3)) (blkOk_by (own := [("octet", 4)]) (N := N__law_some) (sc := defScope s__law_some) (by decide +kernel)) (fun _ _ _ _ _ => (pg_name (i := 4) sc__law_some.nd rfl (Or.inl rfl))) (fun _ _ _ _ _ => pts_nil) (fun _ _ _ _ _ => (pe_op op_mod (pe_callTy call_int1 (by rfl) T.b_int (by decide +kernel) (pa_cons (pv 4) pa_nil)) pe_int)))) pss_nil)
      (C8.pss_cut (ps_if (pt_cmp (pc_eqI (pv 2) pe_int)) (pss_one (ps_setLc (i := 3) (y := "octets") rfl sc__law_some.nd rfl rfl (sw_true rfl rfl rfl (by decide +kernel)) (own := [("octet", 4)]) (g := gName 4) (pi_listK (K := K) (pv 3)) (blkOk_by (own := [("octet", 4)]) (N := N__law_some) (sc := defScope s__law_some) (by decide +kernel)) (fun _ _ _ _ _ => (pg_name (i := 4) sc__law_some.nd rfl (Or.inl rfl))) (fun _ _ _ _ _ => pts_nil) (fun _ _ _ _ _ => (pe_ix (ix_listK (K := K)) (pe_lst (pa_cons pe_int (pa_cons pe_int (pa_cons pe_int (pa_cons pe_int (pa_cons pe_int (pa_cons pe_int (pa_cons pe_int (pa_cons (pv 4) pa_nil))))))))) (pe_op op_mod (pe_callTy call_int1 (by rfl) T.b_int (by decide +kernel) (pa_cons (pv 4) pa_nil)) pe_int) (fun _ _ => rfl))))) pss_nil)
      (C8.pss_cut (ps_if (pt_cmp (pc_eqI (pv 2) pe_int)) (pss_one (ps_setLc (i := 3) (y := "octets") rfl sc__law_some.nd rfl rfl (sw_true rfl rfl rfl (by decide +kernel)) (own := [("octet", 4)]) (g := gName 4) (pi_listK (K := K) (pv 3)) (blkOk_by (own := [("octet", 4)]) (N := N__law_some) (sc := defScope s__law_some) (by decide +kernel)) (fun _ _ _ _ _ => (pg_name (i := 4) sc__law_some.nd rfl (Or.inl rfl))) (fun _ _ _ _ _ => pts_nil) (fun _ _ _ _ _ => (pe_ix (ix_listK (K := K)) (pe_lst (pa_cons pe_int (pa_cons pe_int (pa_cons pe_int (pa_cons pe_int (pa_cons (pe_op op_add pe_int (pe_op op_mod (pe_callTy call_int1 (by rfl) T.b_int (by decide +kernel) (pa_cons (pe_op op_fdivW (pv 4) pe_int) pa_nil)) pe_int)) (pa_cons pe_int (pa_cons (pv 4) (pa_cons pe_int pa_nil))))))))) (pe_op op_mod (pe_callTy call_int1 (by rfl) T.b_int (by decide +kernel) (pa_cons (pv 4) pa_nil)) pe_int) (fun _ _ => rfl))))) pss_nil)
      (pss_one (ps_ret (pv 3)))))))), ?_⟩
    obtain ⟨KK, EE, hK0, hE, hw⟩ := cW_gen hw
    have S0 := Sep.startG sG
    unfold F__law_some at hw
    refine ⟨_, rfl, .inl ⟨_, rfl, ?_⟩⟩
    refine ⟨_, _, rfl, rfl, (show (0 : Int) < 4 by decide), ?_⟩
    have hw := cW_bnd hw
    refine ⟨_, rfl, .inl ⟨_, rfl, ?_⟩⟩
    refine ⟨_, _, rfl, rfl, (divW_lit (by decide) (by decide)), (by show 1 ≤ sizeLine; decide), fun p85 n86 => ?_⟩
    generalize g87 : upd H p85 _ = H88
    obtain ⟨e89, h90⟩ := gen_new n86 g87
    have h91 : H88 p85 = some (.lst (([256] : (List Int)).map V.int)) := h90
    have fr92 := S0.free n86
    have S93 := S0.new n86 e89 h91 fr92
    obtain ⟨g94, hw⟩ := cW_grd hw
    refine ⟨_, rfl, _, _, _, rfl, rfl, h91, g94.1, g94.2.1, (rep_lenM g94.2.2), fun p95 n96 => ?_⟩
    generalize g97 : upd H88 p95 _ = H98
    obtain ⟨e99, h100⟩ := gen_new n96 g97
    have h101 : H98 p95 = some (.lst ((repL ([256]) (size') : (List Int)).map V.int)) := rep_map h100
    have fr102 := S93.free n96
    have S103 := S93.new n96 e99 h101 fr102
    refine ⟨rfl, rfl, G, _, _, _, rfl, S103.sG, (hide_nil h101), cW_call hw (fun v104 hw p107 H105 n108 e106 h109 => ?_) (fun e he H2 e2 => hE e he H2 (Same.trans S103.b0 e2))⟩
    have h110 : H105 p107 = some (.lst ((v104 : (List Int)).map V.int)) := h109
    have fr111 := S103.free n108
    have S112 := S103.new n108 e106 h110 fr111
    refine ⟨fun σ H' => ∃ (p116 : Addr) (octets_115 : (List Int)) (G' : Hp), σ = [some (V.int (cell')), some (V.int (size')), some (V.int ((cell' % 4))), some (V.ref p116), none] ∧ Same G G' ∧ Sep [] H G G' H' [p116] ∧ H' p116 = some (.lst ((octets_115 : (List Int)).map V.int)) ∧ H p116 = none ∧ cW (F__law_some_k1 ((cell' % 4)) octets_115) KK EE, ?_, ?_⟩
    · obtain ⟨K117, hK118, hw⟩ := cW_push hw
      refine ⟨_, rfl, _, _, rfl, rfl, _, rfl, ?_⟩
      refine iteD (fun c119 => ?_) (fun c119 => ?_)
      · have hw := cW_pos c119 hw
        obtain ⟨K121, hK122, hw⟩ := cW_push hw
        refine ⟨_, rfl, _, rfl, ⟨_, (SqL.of h110)⟩, fun D123 n124 => lc_list (K := K) (a := p107) (xs := (v104 : (List Int)).map V.int) (fun i H' => ∃ (G' : Hp) (acc126 : (List Int)), Same G G' ∧ Sep [] H G G' H' [D123, p107] ∧ H' p107 = some (.lst ((v104 : (List Int)).map V.int)) ∧ H' D123 = some (.lst ((acc126 : (List Int)).map V.int)) ∧ Same H105 H' ∧ cW (mapA (List.drop i (v104)) acc126 (fun x => noEr (F__law_some_c2  x))) K121 EE) ?_ ?_ ?_ ?_⟩
        · generalize g128 : upd H105 D123 _ = H129
          obtain ⟨e130, h131⟩ := gen_new n124 g128
          have fr132 := S112.free n124
          have S133 := S112.new n124 e130 h131 fr132
          have h134 := (e130 _ _ h110)
          exact ⟨_, [], Same.refl _, (S133.sub (all_cons (.head _) (all_cons (.tail _ (.head _)) all_nil))), h134, h131, e130, hw⟩
        · intro i H135 _ hw
          obtain ⟨G138, acc140, eG139, S136, h147, h137, eo146, hw⟩ := hw
          exact (SqL.of h147)
        · intro i x H148 hj hw
          obtain ⟨G151, acc153, eG152, S149, h160, h150, eo159, hw⟩ := hw
          obtain ⟨x161, hx, rfl⟩ := map_get hj
          obtain ⟨z162, hw⟩ := cW_mapA hx hw
          have hw := cW_noEr hw
          have hw : cW (F__law_some_c2  (x161)) _ (fun _ => False) := hw
          unfold F__law_some_c2 at hw
          refine ⟨rfl, ?_⟩
          refine tyes_go ?_
          refine ⟨_, rfl, .inl ⟨_, rfl, ?_⟩⟩
          refine ⟨_, _, rfl, rfl, (show (0 : Int) < 4 by decide), _, h150, (app_lenM z162), ?_⟩
          generalize g164 : upd H148 D123 _ = H165
          obtain ⟨x166, h167⟩ := gen_mut g164
          have S168 := S149.mut1 x166 (.head _) h167
          have hw := cW_ok hw
          have h169 := (x166 _ _ h160 (ne_of_none h110 n124))
          exact ⟨_, (acc153 ++ [(x161 % 4)]), eG152, S168, h169, (snoc_map h167), (same_mut eo159 x166 n124), hw⟩
        intro H170 hw
        obtain ⟨G173, acc175, eG174, S171, h182, h172, eo181, hw⟩ := hw
        have hw := hK122 _ (cW_mapA0 (by rw [List.length_map]) hw)
        have fr183 := S112.free n124
        have hw := cW_ok hw
        have hw := hK118 _ hw
        exact ⟨_, (acc175), _, rfl, eG174, (S171.sub (all_cons (.head _) all_nil)), h172, fr183, hw⟩
      · have hw := cW_neg c119 hw
        have hw := cW_ok hw
        have hw := hK118 _ hw
        exact ⟨_, (v104), _, rfl, (Same.refl _), (S112.sub (all_cons (.head _) all_nil)), h110, fr111, hw⟩
    · intro σ H184 hw
      obtain ⟨p116, octets_115, G188, rfl, eG189, S185, h186, fr187, hw⟩ := hw
      unfold F__law_some_k1 at hw
      refine ⟨fun σ H' => ∃ (p193 : Addr) (octets_192 : (List Int)) (G' : Hp), σ = [some (V.int (cell')), some (V.int (size')), some (V.int ((cell' % 4))), some (V.ref p193), none] ∧ Same G188 G' ∧ Sep [] H G G' H' [p193] ∧ H' p193 = some (.lst ((octets_192 : (List Int)).map V.int)) ∧ H p193 = none ∧ cW (F__law_some_k3 ((cell' % 4)) octets_192) KK EE, ?_, ?_⟩
      · obtain ⟨K194, hK195, hw⟩ := cW_push hw
        refine ⟨_, rfl, _, _, rfl, rfl, _, rfl, ?_⟩
        refine iteD (fun c196 => ?_) (fun c196 => ?_)
        · have hw := cW_pos c196 hw
          obtain ⟨K198, hK199, hw⟩ := cW_push hw
          refine ⟨_, rfl, _, rfl, ⟨_, (SqL.of h186)⟩, fun D200 n201 => lc_list (K := K) (a := p116) (xs := (octets_115 : (List Int)).map V.int) (fun i H' => ∃ (G' : Hp) (acc203 : (List Int)), Same G188 G' ∧ Sep [] H G G' H' [D200, p116] ∧ H' p116 = some (.lst ((octets_115 : (List Int)).map V.int)) ∧ H' D200 = some (.lst ((acc203 : (List Int)).map V.int)) ∧ Same H184 H' ∧ cW (mapA (List.drop i (octets_115)) acc203 (fun x => noEr (F__law_some_c4  x))) K198 EE) ?_ ?_ ?_ ?_⟩
          · generalize g205 : upd H184 D200 _ = H206
            obtain ⟨e207, h208⟩ := gen_new n201 g205
            have fr209 := S185.free n201
            have S210 := S185.new n201 e207 h208 fr209
            have h211 := (e207 _ _ h186)
            exact ⟨_, [], Same.refl _, S210, h211, h208, e207, hw⟩
          · intro i H212 _ hw
            obtain ⟨G215, acc217, eG216, S213, h224, h214, eo223, hw⟩ := hw
            exact (SqL.of h224)
          · intro i x H225 hj hw
            obtain ⟨G228, acc230, eG229, S226, h237, h227, eo236, hw⟩ := hw
            obtain ⟨x238, hx, rfl⟩ := map_get hj
            obtain ⟨z239, hw⟩ := cW_mapA hx hw
            have hw := cW_noEr hw
            have hw : cW (F__law_some_c4  (x238)) _ (fun _ => False) := hw
            unfold F__law_some_c4 at hw
            refine ⟨rfl, ?_⟩
            refine tyes_go ?_
            refine ⟨_, rfl, (by show 8 ≤ sizeLine; decide), fun p241 n242 => ?_⟩
            generalize g243 : upd H225 p241 _ = H244
            obtain ⟨e245, h246⟩ := gen_new n242 g243
            have h247 : H244 p241 = some (.lst (([0, 0, 0, 0, 0, 1, 3, x238] : (List Int)).map V.int)) := h246
            have fr248 := S226.free n242
            have S249 := S226.new n242 e245 h247 fr248
            refine ⟨_, rfl, .inl ⟨_, rfl, ?_⟩⟩
            obtain ⟨g250, hw⟩ := cW_grd hw
            have h251 := (e245 _ _ h227)
            refine ⟨_, _, rfl, rfl, (show (0 : Int) < 8 by decide), _, _, _, _, rfl, rfl, (SqL.of h247), (atI_map g250), _, h251, (app_lenM z239), ?_⟩
            generalize g252 : upd H244 D200 _ = H253
            obtain ⟨x254, h255⟩ := gen_mut g252
            have S256 := S249.mut1 x254 (.tail _ (.head _)) h255
            have hw := cW_ok hw
            have h257 := (x254 _ _ (e245 _ _ h237) (ne_of_none h186 n201))
            exact ⟨_, (acc230 ++ [(itD ([0, 0, 0, 0, 0, 1, 3, x238]) ((x238 % 8)))]), eG229, (S256.sub (all_cons (.tail _ (.head _)) (all_cons (.tail _ (.tail _ (.head _))) all_nil))), h257, (snoc_map h255), (same_mut (Same.trans eo236 e245) x254 n201), hw⟩
          intro H258 hw
          obtain ⟨G261, acc263, eG262, S259, h270, h260, eo269, hw⟩ := hw
          have hw := hK199 _ (cW_mapA0 (by rw [List.length_map]) hw)
          have fr271 := S185.free n201
          have hw := cW_ok hw
          have hw := hK195 _ hw
          exact ⟨_, (acc263), _, rfl, eG262, (S259.sub (all_cons (.head _) all_nil)), h260, fr271, hw⟩
        · have hw := cW_neg c196 hw
          have hw := cW_ok hw
          have hw := hK195 _ hw
          exact ⟨_, (octets_115), _, rfl, (Same.refl _), S185, h186, fr187, hw⟩
      · intro σ H272 hw
        obtain ⟨p193, octets_192, G276, rfl, eG277, S273, h274, fr275, hw⟩ := hw
        unfold F__law_some_k3 at hw
        refine ⟨fun σ H' => ∃ (p280 : Addr) (octets_279 : (List Int)) (G' : Hp), σ = [some (V.int (cell')), some (V.int (size')), some (V.int ((cell' % 4))), some (V.ref p280), none] ∧ Same G276 G' ∧ Sep [] H G G' H' [p280] ∧ H' p280 = some (.lst ((octets_279 : (List Int)).map V.int)) ∧ H p280 = none ∧ cW (F__law_some_k5  octets_279) KK EE, ?_, ?_⟩
        · obtain ⟨K281, hK282, hw⟩ := cW_push hw
          refine ⟨_, rfl, _, _, rfl, rfl, _, rfl, ?_⟩
          refine iteD (fun c283 => ?_) (fun c283 => ?_)
          · have hw := cW_pos c283 hw
            obtain ⟨K285, hK286, hw⟩ := cW_push hw
            refine ⟨_, rfl, _, rfl, ⟨_, (SqL.of h274)⟩, fun D287 n288 => lc_list (K := K) (a := p193) (xs := (octets_192 : (List Int)).map V.int) (fun i H' => ∃ (G' : Hp) (acc290 : (List Int)), Same G276 G' ∧ Sep [] H G G' H' [D287, p193] ∧ H' p193 = some (.lst ((octets_192 : (List Int)).map V.int)) ∧ H' D287 = some (.lst ((acc290 : (List Int)).map V.int)) ∧ Same H272 H' ∧ cW (mapA (List.drop i (octets_192)) acc290 (fun x => noEr (F__law_some_c6  x))) K285 EE) ?_ ?_ ?_ ?_⟩
            · generalize g292 : upd H272 D287 _ = H293
              obtain ⟨e294, h295⟩ := gen_new n288 g292
              have fr296 := S273.free n288
              have S297 := S273.new n288 e294 h295 fr296
              have h298 := (e294 _ _ h274)
              exact ⟨_, [], Same.refl _, S297, h298, h295, e294, hw⟩
            · intro i H299 _ hw
              obtain ⟨G302, acc304, eG303, S300, h311, h301, eo310, hw⟩ := hw
              exact (SqL.of h311)
            · intro i x H312 hj hw
              obtain ⟨G315, acc317, eG316, S313, h324, h314, eo323, hw⟩ := hw
              obtain ⟨x325, hx, rfl⟩ := map_get hj
              obtain ⟨z326, hw⟩ := cW_mapA hx hw
              have hw := cW_noEr hw
              have hw : cW (F__law_some_c6  (x325)) _ (fun _ => False) := hw
              unfold F__law_some_c6 at hw
              refine ⟨rfl, ?_⟩
              refine tyes_go ?_
              refine ⟨_, rfl, _, _, rfl, rfl, (divW_lit (by decide) (by decide)), .inl ⟨_, rfl, ?_⟩⟩
              refine ⟨_, _, rfl, rfl, (show (0 : Int) < 6 by decide), _, _, rfl, rfl, _, rfl, (by show 8 ≤ sizeLine; decide), fun p328 n329 => ?_⟩
              generalize g330 : upd H312 p328 _ = H331
              obtain ⟨e332, h333⟩ := gen_new n329 g330
              have h334 : H331 p328 = some (.lst (([0, 0, 1, 128, (1 + ((x325 / 8) % 6)), 3, x325, 0] : (List Int)).map V.int)) := h333
              have fr335 := S313.free n329
              have S336 := S313.new n329 e332 h334 fr335
              refine ⟨_, rfl, .inl ⟨_, rfl, ?_⟩⟩
              obtain ⟨g337, hw⟩ := cW_grd hw
              have h338 := (e332 _ _ h314)
              refine ⟨_, _, rfl, rfl, (show (0 : Int) < 8 by decide), _, _, _, _, rfl, rfl, (SqL.of h334), (atI_map g337), _, h338, (app_lenM z326), ?_⟩
              generalize g339 : upd H331 D287 _ = H340
              obtain ⟨x341, h342⟩ := gen_mut g339
              have S343 := S336.mut1 x341 (.tail _ (.head _)) h342
              have hw := cW_ok hw
              have h344 := (x341 _ _ (e332 _ _ h324) (ne_of_none h274 n288))
              exact ⟨_, (acc317 ++ [(itD ([0, 0, 1, 128, (1 + ((x325 / 8) % 6)), 3, x325, 0]) ((x325 % 8)))]), eG316, (S343.sub (all_cons (.tail _ (.head _)) (all_cons (.tail _ (.tail _ (.head _))) all_nil))), h344, (snoc_map h342), (same_mut (Same.trans eo323 e332) x341 n288), hw⟩
            intro H345 hw
            obtain ⟨G348, acc350, eG349, S346, h357, h347, eo356, hw⟩ := hw
            have hw := hK286 _ (cW_mapA0 (by rw [List.length_map]) hw)
            have fr358 := S273.free n288
            have hw := cW_ok hw
            have hw := hK282 _ hw
            exact ⟨_, (acc350), _, rfl, eG349, (S346.sub (all_cons (.head _) all_nil)), h347, fr358, hw⟩
          · have hw := cW_neg c283 hw
            have hw := cW_ok hw
            have hw := hK282 _ hw
            exact ⟨_, (octets_192), _, rfl, (Same.refl _), S273, h274, fr275, hw⟩
        · intro σ H359 hw
          obtain ⟨p280, octets_279, G363, rfl, eG364, S360, h361, fr362, hw⟩ := hw
          unfold F__law_some_k5 at hw
          refine ⟨_, rfl, ?_⟩
          have hw := cW_ok hw
          exact hK0 _ hw _ _ fr362 S360.b0 h361

abbrev N__law_units : List Str := ["script", "units", "k", "draws"]
theorem sc__law_units : FnScope N__law_units ["script"] (defScope s__law_units) := ⟨rfl, rfl, rfl, by decide +kernel, rfl, by decide +kernel, by decide +kernel⟩
theorem ok__law_units (D : DefX K mg "_law_units" s__law_units ["script"] pats__law_units) (T : Txt K mg AD) (c__law_draws : CalX P w K mg base 1 "_law_draws" (sp__law_draws K AD) pats__law_draws) (c__law_cell : CalX P w K mg base 1 "_law_cell" (sp__law_cell K AD) pats__law_cell) (c__law_some : CalX P w K mg base 2 "_law_some" (sp__law_some K AD) pats__law_some) : CalX P w K mg base 3 "_law_units" (sp__law_units K AD) pats__law_units := by
  refine D.ok sc__law_units (fun vs H Q E h => ?_) (fun f cdv A_ outer s H vs Q E hr h => ?_)
  · obtain ⟨G, a_script, script', rfl, _⟩ := h
    rfl
  · obtain ⟨G, a_script, script', rfl, sG, q_script, hw⟩ := h
    refine ⟨_, (pss_cons (ps_set (i := 1) sc__law_units.nd rfl (Or.inl rfl) (pe_lst pa_nil))
      (pss_cons (ps_for (passes_of rfl) rfl (pi_range1 rfl T.b_range (pa_cons (pe_callB (call_min2 rfl) (by rfl) T.b_min (by decide +kernel) (pa_cons pe_int (pa_cons (pe_op op_fdivW (pe_callB (call_lenLiK (K := K)) (by rfl) T.b_len (by decide +kernel) (pa_cons (pv 0) pa_nil)) pe_int) pa_nil))) pa_nil)) (pg_name (i := 2) sc__law_units.nd rfl (Or.inl rfl)) (pss_cons (ps_set (i := 3) sc__law_units.nd rfl (Or.inl rfl) (vx_callX c__law_draws pat__law_draws_0 (.head _) hr (by decide) (takes_of rfl rfl rfl rfl) rfl (pa_cons (vx_callX c__law_cell pat__law_cell_0 (.head _) hr (by decide) (takes_of rfl rfl rfl rfl) rfl (pa_cons (pv 0) (pa_cons (pe_op op_mul pe_int (pv 2)) pa_nil)) pk_nil) (pa_cons (pe_lst (pa_cons pe_int (pa_cons pe_int pa_nil))) pa_nil)) pk_nil))
      (pss_one (ps_expr (pe_bm PySem.F.plainAttrs_list PySem.F.slot_list_append PySem.F.type_list_append mt_append (pv 1) (pa_cons (pe_tup (pa_cons (pe_op op_add pe_int (pe_ix (ix_listK (K := K)) (pv 3) pe_int (fun _ _ => rfl))) (pa_cons (vx_callX c__law_some pat__law_some_0 (.head _) hr (by decide) (takes_of rfl rfl rfl rfl) rfl (pa_cons (vx_callX c__law_cell pat__law_cell_0 (.head _) hr (by decide) (takes_of rfl rfl rfl rfl) rfl (pa_cons (pv 0) (pa_cons (pe_op op_add (pe_op op_mul pe_int (pv 2)) pe_int) pa_nil)) pk_nil) (pa_cons (pe_ix (ix_listK (K := K)) (pv 3) pe_int (fun _ _ => rfl)) pa_nil)) pk_nil) pa_nil))) pa_nil))))))
      (C8.pss_cut (ps_if (PW.pt (pw_and (pt_cmp (pc_gt (pe_callB (call_lenLK (K := K)) (by rfl) T.b_len (by decide +kernel) (pa_cons (pv 1) pa_nil)) pe_int)) (pw_and1 (pt_cmp (pc_eqI (pe_op op_mod (pe_callTy call_int1 (by rfl) T.b_int (by decide +kernel) (pa_cons (vx_callX c__law_cell pat__law_cell_0 (.head _) hr (by decide) (takes_of rfl rfl rfl rfl) rfl (pa_cons (pv 0) (pa_cons pe_int pa_nil)) pk_nil) pa_nil)) pe_int) pe_int))))) (pss_one (ps_asg (pe_tup (pa_cons (pe_ix (ix_tupK (K := K)) (pe_ix (ix_listK (K := K)) (pv 1) pe_int (fun _ _ => rfl)) pe_int (fun _ _ => rfl)) (pa_cons (pe_op op_rep (pe_slice (sl_listK (K := K)) (pe_op op_cat (pe_ix (ix_tupK (K := K)) (pe_ix (ix_listK (K := K)) (pv 1) pe_int (fun _ _ => rfl)) pe_int (fun _ _ => rfl)) (pe_lst (pa_cons pe_int (pa_cons pe_int (pa_cons pe_int pa_nil))))) po_none (po_some pe_int)) pe_int) pa_nil))) (pg_sub (pv 1) pe_int set_list))) pss_nil)
      (pss_one (ps_ret (pv 1)))))), ?_⟩
    obtain ⟨KK, EE, hK0, hE, hw⟩ := cW_gen hw
    have S0 := Sep.startG sG
    unfold F__law_units at hw
    refine ⟨(by show 0 ≤ sizeLine; decide), fun p365 n366 => ?_⟩
    generalize g367 : upd H p365 _ = H368
    obtain ⟨e369, h370⟩ := gen_new n366 g367
    have h371 : H368 p365 = some (.lst ([])) := h370
    have fr372 := S0.free n366
    have S373 := S0.new n366 e369 h371 fr372
    have d374 : RpAll G ([]) ((([] : (List (Int × (List Int)))) : (List (Int × (List Int)))).map (encT2 PyData.int (encL PyData.int))) := RpAll.nil
    obtain ⟨g375, hw⟩ := cW_grd hw
    obtain ⟨K378, hK379, hw⟩ := cW_push hw
    refine ⟨_, rfl, _, _, rfl, (S373.b0.seq q_script), _, _, rfl, rfl, (divW_lit (by decide) (by decide)), _, _, rfl, _, rfl, g375.1, g375.2, for_range (lo := 0) (n := Int.toNat ((if ((((script') : (List Int)).length : Int) / 2) < 20 then ((((script') : (List Int)).length : Int) / 2) else 20))) (fun i σ H' => ∃ (units_380 : (List (Int × (List Int)))) (vs381 : List V) (u382 : Option V) (u383 : Option V) (G' : Hp), σ = [some (V.ref a_script), some (V.ref p365), u382, u383] ∧ Same G G' ∧ Sep [] H G G' H' [p365] ∧ H' p365 = some (.lst (vs381)) ∧ RpAll G' (vs381) ((units_380 : (List (Int × (List Int)))).map (encT2 PyData.int (encL PyData.int))) ∧ cW (forS (List.drop i (rng (0) (Int.toNat ((if ((((script') : (List Int)).length : Int) / 2) < 20 then ((((script') : (List Int)).length : Int) / 2) else 20))))) units_380 (fun s x => F__law_units_b1 (script') s x)) K378 EE) ?_ ?_ ?_⟩
    · exact ⟨(([] : (List (Int × (List Int))))), _, _, _, _, rfl, (Same.refl _), S373, h371, d374, hw⟩
    · intro i σ H384 hi hw
      obtain ⟨units_380, vs381, u382, u383, G388, rfl, eG389, S385, h386, d387, hw⟩ := hw
      have hw := cW_forS (rng_get hi) hw
      generalize (0 + (i : Int)) = x390 at hw ⊢
      have hw : cW (F__law_units_b1 (script') (units_380) (x390)) _ EE := hw
      unfold F__law_units_b1 at hw
      obtain ⟨K392, hK393, hw⟩ := cW_name hw
      refine ⟨_, rfl, _, rfl, _, _, rfl, rfl, (.inl ⟨by decide, by decide⟩), rfl, rfl, G388, _, _, _, rfl, S385.sG, (S385.b0.seq q_script), cW_call hw (fun v395 hw => ?_) (fun e he => hE e he _ S385.b0)⟩
      refine ⟨(by show 2 ≤ sizeLine; decide), fun p396 n397 => ?_⟩
      generalize g398 : upd H384 p396 _ = H399
      obtain ⟨e400, h401⟩ := gen_new n397 g398
      have h402 : H399 p396 = some (.lst (([31, 31] : (List Int)).map V.int)) := h401
      have fr403 := S385.free n397
      have S404 := S385.new n397 e400 h402 fr403
      refine ⟨rfl, rfl, G388, _, _, _, rfl, S404.sG, (hide_nil h402), cW_call hw (fun v405 hw p408 H406 n409 e407 h410 => ?_) (fun e he H2 e2 => hE e he H2 (Same.trans S404.b0 e2))⟩
      have h411 : H406 p408 = some (.lst ((v405 : (List Int)).map V.int)) := h410
      have fr412 := S404.free n409
      have S413 := S404.new n409 e407 h411 fr412
      have h414 := (e407 _ _ (e400 _ _ h386))
      obtain ⟨g415, hw⟩ := cW_grd hw
      refine ⟨_, rfl, (.inl ⟨rfl, _, SqL.of h414⟩), _, rfl, _, _, _, _, rfl, rfl, (SqL.of h411), (atI_map g415), _, _, rfl, rfl, _, rfl, _, rfl, _, _, rfl, rfl, (.inl ⟨by decide, by decide⟩), _, _, rfl, rfl, rfl, rfl, G388, _, _, _, rfl, S413.sG, (S413.b0.seq q_script), cW_call hw (fun v416 hw => ?_) (fun e he => hE e he _ S413.b0)⟩
      obtain ⟨g417, hw⟩ := cW_grd hw
      refine ⟨_, rfl, _, _, _, _, rfl, rfl, (SqL.of h411), (atI_map g417), rfl, rfl, G388, _, _, rfl, S413.sG, cW_call hw (fun v418 hw p421 H419 n422 e420 h423 => ?_) (fun e he H2 e2 => hE e he H2 (Same.trans S413.b0 e2))⟩
      have h424 : H419 p421 = some (.lst ((v418 : (List Int)).map V.int)) := h423
      have fr425 := S413.free n422
      have S426 := S413.new n422 e420 h424 fr425
      refine ⟨(by show 2 ≤ sizeLine; decide), fun p427 n428 => ?_⟩
      generalize g429 : upd H419 p427 _ = H430
      obtain ⟨e431, h432⟩ := gen_new n428 g429
      have h433 : H430 p427 = some (.tup [V.int ((1 + (itD (v405) (0)))), V.ref p421]) := h432
      have fr434 := S426.free n428
      obtain ⟨G436, eG437, hg438, S435⟩ := S426.grow n428 e431 h433 fr434
      obtain ⟨g439, hw⟩ := cW_grd hw
      have h440 := (e431 _ _ (e420 _ _ h414))
      have h441 := (e431 _ _ h424)
      obtain ⟨G442, eG443, hg444, S445⟩ := Sep.freeze (O' := [p408, p396, p365]) S435 (.head _) h441 fr425 ((all_cons ⟨(.tail _ (.head _)), (ne_of_none h411 n422)⟩ (all_cons ⟨(.tail _ (.tail _ (.head _))), (ne_of_none (e407 _ _ h402) n422)⟩ (all_cons ⟨(.tail _ (.tail _ (.tail _ (.head _)))), (ne_of_none h414 n422)⟩ all_nil))))
      refine ⟨_, _, _, rfl, rfl, h440, (app_len (RpAll.mono eG443 (RpAll.mono eG437 d387)) g439), ?_⟩
      generalize g446 : upd H430 p365 _ = H447
      obtain ⟨x448, h449⟩ := gen_mut g446
      have h450 : H447 p365 = some (.lst (vs381 ++ [V.ref p427])) := h449
      have S451 := S445.mut1 x448 (.tail _ (.tail _ (.head _))) h450
      have d452 : RpAll G442 (vs381 ++ [V.ref p427]) (((units_380) ++ [((1 + (itD (v405) (0))), v418)] : (List (Int × (List Int)))).map (encT2 PyData.int (encL PyData.int))) := app_map (RpAll.mono eG443 (RpAll.mono eG437 d387)) (RpAll.one (rp_mk2 (eG443 _ _ hg438) (.int _) (rp_mk_ints hg444)))
      have hw := cW_bnd hw
      have hw := cW_ok hw
      have hw := hK393 _ hw
      exact ⟨((units_380) ++ [((1 + (itD (v405) (0))), v418)]), _, _, _, _, rfl, (Same.trans (Same.trans eG389 eG437) eG443), (S451.sub (all_cons (.tail _ (.tail _ (.head _))) all_nil)), h450, d452, hw⟩
    · intro σ H454 hw
      obtain ⟨units_380, vs381, u382, u383, G458, rfl, eG459, S455, h456, d457, hw⟩ := hw
      have hw := hK379 _ (cW_forS0 (rng_len _ _).symm hw)
      have hw : cW (F__law_units_r1 (script') (units_380)) _ EE := hw
      unfold F__law_units_r1 at hw
      refine ⟨fun σ H' => ∃ (units_462 : (List (Int × (List Int)))) (vs463 : List V) (G' : Hp), σ = [some (V.ref a_script), some (V.ref p365), u382, u383] ∧ Same G458 G' ∧ Sep [] H G G' H' [p365] ∧ H' p365 = some (.lst (vs463)) ∧ RpAll G' (vs463) ((units_462 : (List (Int × (List Int)))).map (encT2 PyData.int (encL PyData.int))) ∧ cW (F__law_units_k2  units_462) KK EE, ?_, ?_⟩
      · obtain ⟨K464, hK465, hw⟩ := cW_push hw
        refine ⟨_, rfl, _, _, _, rfl, (SqL.of h456), (by rw [d457.len, List.length_map]), _, _, rfl, rfl, _, rfl, ?_⟩
        refine iteD (fun c466 => ?_) (fun c466 => ?_)
        · have hw := cW_pos c466 hw
          refine ⟨_, rfl, rfl, rfl, G458, _, _, _, rfl, S455.sG, (S455.b0.seq q_script), cW_call hw (fun v467 hw => ?_) (fun e he => hE e he _ S455.b0)⟩
          refine .inl ⟨_, rfl, ?_⟩
          refine ⟨_, _, rfl, rfl, (show (0 : Int) < 8 by decide), _, _, rfl, rfl, _, rfl, ?_⟩
          refine iteD (fun c468 => ?_) (fun c468 => ?_)
          · have hw := cW_pos c468 hw
            obtain ⟨g469, hw⟩ := cW_grd hw
            obtain ⟨v470, a471, r472⟩ := RpAll.ixD (k := 1) d457 g469
            obtain ⟨a473, v475, v476, rfl, h474, r477, r478⟩ := rp_tup2 r472
            obtain rfl := rp_int r477
            obtain ⟨a479, rfl, h480⟩ := rp_ints r478
            obtain ⟨g481, hw⟩ := cW_grd hw
            obtain ⟨v482, a483, r484⟩ := RpAll.ixD (k := 1) d457 g481
            obtain ⟨a485, v487, v488, rfl, h486, r489, r490⟩ := rp_tup2 r484
            obtain rfl := rp_int r489
            obtain ⟨a491, rfl, h492⟩ := rp_ints r490
            refine ⟨_, rfl, _, _, _, _, rfl, rfl, (SqL.of h456), a471, _, _, _, _, rfl, rfl, (SqT.of (S455.sG _ _ h474)), rfl, _, rfl, _, _, _, _, rfl, rfl, (SqL.of h456), a483, _, _, _, _, rfl, rfl, (SqT.of (S455.sG _ _ h486)), rfl, (by show 3 ≤ sizeLine; decide), fun p493 n494 => ?_⟩
            generalize g495 : upd H454 p493 _ = H496
            obtain ⟨e497, h498⟩ := gen_new n494 g495
            have h499 : H496 p493 = some (.lst (([0, 0, 1] : (List Int)).map V.int)) := h498
            have fr500 := S455.free n494
            have S501 := S455.new n494 e497 h499 fr500
            obtain ⟨g502, hw⟩ := cW_grd hw
            refine ⟨_, _, _, _, rfl, rfl, (S501.sG _ _ h492), h499, (cat_lenM g502), fun p503 n504 => ?_⟩
            generalize g505 : upd H496 p503 _ = H506
            obtain ⟨e507, h508⟩ := gen_new n504 g505
            have h509 : H506 p503 = some (.lst ((((itD (units_380) (1)).2) ++ ([0, 0, 1]) : (List Int)).map V.int)) := cat_map h508
            have fr510 := S501.free n504
            have S511 := S501.new n504 e507 h509 fr510
            refine ⟨_, rfl, _, _, rfl, (SqL.of h509), fun p512 n513 => ?_⟩
            generalize g514 : upd H506 p512 _ = H515
            obtain ⟨e516, h517⟩ := gen_new n513 g514
            have h518 : H515 p512 = some (.lst ((cutL (((itD (units_380) (1)).2) ++ ([0, 0, 1])) none (some (3)) : (List Int)).map V.int)) := cut_map h517
            have fr519 := S511.free n513
            have S520 := S511.new n513 e516 h518 fr519
            obtain ⟨g521, hw⟩ := cW_grd hw
            refine ⟨_, _, _, rfl, rfl, h518, g521.1, g521.2.1, (rep_lenM g521.2.2), fun p522 n523 => ?_⟩
            generalize g524 : upd H515 p522 _ = H525
            obtain ⟨e526, h527⟩ := gen_new n523 g524
            have h528 : H525 p522 = some (.lst ((repL (cutL (((itD (units_380) (1)).2) ++ ([0, 0, 1])) none (some (3))) (1000) : (List Int)).map V.int)) := rep_map h527
            have fr529 := S520.free n523
            have S530 := S520.new n523 e526 h528 fr529
            refine ⟨(by show 2 ≤ sizeLine; decide), fun p531 n532 => ?_⟩
            generalize g533 : upd H525 p531 _ = H534
            obtain ⟨e535, h536⟩ := gen_new n532 g533
            have h537 : H534 p531 = some (.tup [V.int ((itD (units_380) (1)).1), V.ref p522]) := h536
            have fr538 := S530.free n532
            obtain ⟨G540, eG541, hg542, S539⟩ := S530.grow n532 e535 h537 fr538
            obtain ⟨g543, hw⟩ := cW_grd hw
            refine ⟨_, rfl, ?_⟩
            have h544 := (e535 _ _ h528)
            obtain ⟨G545, eG546, hg547, S548⟩ := Sep.freeze (O' := [p512, p503, p493, p365]) S539 (.head _) h544 fr529 ((all_cons ⟨(.tail _ (.head _)), (ne_of_none h518 n523)⟩ (all_cons ⟨(.tail _ (.tail _ (.head _))), (ne_of_none (e516 _ _ h509) n523)⟩ (all_cons ⟨(.tail _ (.tail _ (.tail _ (.head _)))), (ne_of_none (e516 _ _ (e507 _ _ h499)) n523)⟩ (all_cons ⟨(.tail _ (.tail _ (.tail _ (.tail _ (.head _))))), (ne_of_none (e516 _ _ (e507 _ _ (e497 _ _ h456))) n523)⟩ all_nil)))))
            have h549 := (e535 _ _ (e526 _ _ (e516 _ _ (e507 _ _ (e497 _ _ h456)))))
            refine ⟨_, _, _, _, rfl, rfl, h549, (ixN_len (by rw [RpAll.len (RpAll.mono eG546 (RpAll.mono eG541 d457)), List.length_map]) g543), ?_⟩
            generalize g550 : upd H534 p365 _ = H551
            obtain ⟨x552, h553⟩ := gen_mut g550
            have h554 : H551 p365 = some (.lst ((vs381).set ((ixN (vs381).length (1)).getD 0) (V.ref p531))) := h553
            have S555 := S548.mut1 x552 (.tail _ (.tail _ (.tail _ (.head _)))) h554
            have d556 : RpAll G545 ((vs381).set ((ixN (vs381).length (1)).getD 0) (V.ref p531)) ((setL (units_380) (1) (((itD (units_380) (1)).1, repL (cutL (((itD (units_380) (1)).2) ++ ([0, 0, 1])) none (some (3))) (1000))) : (List (Int × (List Int)))).map (encT2 PyData.int (encL PyData.int))) := RpAll.setM (RpAll.mono eG546 (RpAll.mono eG541 d457)) (rp_mk2 (eG546 _ _ hg542) (.int _) (rp_mk_ints hg547))
            have hw := cW_bnd hw
            have hw := cW_ok hw
            have hw := hK465 _ hw
            exact ⟨(setL (units_380) (1) (((itD (units_380) (1)).1, repL (cutL (((itD (units_380) (1)).2) ++ ([0, 0, 1])) none (some (3))) (1000)))), _, _, rfl, (Same.trans eG541 eG546), (S555.sub (all_cons (.tail _ (.tail _ (.tail _ (.head _)))) all_nil)), h554, d556, hw⟩
          · have hw := cW_neg c468 hw
            have hw := cW_ok hw
            have hw := hK465 _ hw
            exact ⟨(units_380), _, _, rfl, (Same.refl _), S455, h456, d457, hw⟩
        · have hw := cW_neg c466 hw
          refine iteF ?_
          have hw := cW_ok hw
          have hw := hK465 _ hw
          exact ⟨(units_380), _, _, rfl, (Same.refl _), S455, h456, d457, hw⟩
      · intro σ H558 hw
        obtain ⟨units_462, vs463, G562, rfl, eG563, S559, h560, d561, hw⟩ := hw
        unfold F__law_units_k2 at hw
        refine ⟨_, rfl, ?_⟩
        have hw := cW_ok hw
        exact hK0 _ hw _ _ _ _ fr372 S559.b0 S559.g0 S559.sG S559.gn (S559.ow _ (.head _)).1 h560 d561

abbrev N_escape : List Str := ["octets", "escaped", "zeros", "octet"]
theorem sc_escape : FnScope N_escape ["octets"] (defScope s_escape) := ⟨rfl, rfl, rfl, by decide +kernel, rfl, by decide +kernel, by decide +kernel⟩
theorem ok_escape (D : DefX K mg "escape" s_escape ["octets"] pats_escape) (T : Txt K mg AD)  : CalX P w K mg base 1 "escape" (sp_escape K AD) pats_escape := by
  refine D.ok sc_escape (fun vs H Q E h => ?_) (fun f cdv A_ outer s H vs Q E hr h => ?_)
  · obtain ⟨G, a_octets, octets', rfl, _⟩ := h
    rfl
  · obtain ⟨G, a_octets, octets', rfl, sG, q_octets, hw⟩ := h
    refine ⟨_, (pss_cons (ps_set (i := 1) sc_escape.nd rfl (Or.inl rfl) (pe_lst pa_nil))
      (pss_cons (ps_set (i := 2) sc_escape.nd rfl (Or.inl rfl) pe_int)
      (pss_cons (ps_for (passes_of rfl) rfl (pi_listK (K := K) (pv 0)) (pg_name (i := 3) sc_escape.nd rfl (Or.inl rfl)) (C8.pss_cut (ps_if (PW.pt (pw_and (pt_cmp (pc_eqI (pv 2) pe_int)) (pw_and1 (pt_cmp (pc_le (pv 3) (C8.pe_gc rfl T.g_ESCAPE)))))) (pss_cons (ps_expr (pe_bm PySem.F.plainAttrs_list PySem.F.slot_list_append PySem.F.type_list_append mt_append (pv 1) (pa_cons (C8.pe_gc rfl T.g_ESCAPE) pa_nil)))
      (pss_one (ps_set (i := 2) sc_escape.nd rfl (Or.inl rfl) pe_int))) pss_nil)
      (pss_cons (ps_expr (pe_bm PySem.F.plainAttrs_list PySem.F.slot_list_append PySem.F.type_list_append mt_append (pv 1) (pa_cons (pv 3) pa_nil)))
      (pss_one (ps_set (i := 2) sc_escape.nd rfl (Or.inl rfl) (pe_ifExp (pt_cmp (pc_eqI (pv 3) pe_int)) (pe_op op_add (pv 2) pe_int) pe_int))))))
      (pss_one (ps_ret (pv 1)))))), ?_⟩
    obtain ⟨KK, EE, hK0, hE, hw⟩ := cW_gen hw
    have S0 := Sep.startG sG
    unfold F_escape at hw
    refine ⟨(by show 0 ≤ sizeLine; decide), fun p564 n565 => ?_⟩
    generalize g566 : upd H p564 _ = H567
    obtain ⟨e568, h569⟩ := gen_new n565 g566
    have h570 : H567 p564 = some (.lst ((([] : (List Int)) : (List Int)).map V.int)) := h569
    have fr571 := S0.free n565
    have S572 := S0.new n565 e568 h570 fr571
    obtain ⟨K573, hK574, hw⟩ := cW_push hw
    refine ⟨_, rfl, _, rfl, ⟨_, (SqL.of (S572.bM _ _ q_octets))⟩, for_list (K := K) (a := a_octets) (xs := (octets' : List Int).map V.int) (fun i σ H' => ∃ (escaped_575 : (List Int)) (zeros_576 : Int) (u577 : Option V) (G' : Hp), σ = [some (V.ref a_octets), some (V.ref p564), some (V.int zeros_576), u577] ∧ Same G G' ∧ Sep [] H G G' H' [p564] ∧ H' p564 = some (.lst ((escaped_575 : (List Int)).map V.int)) ∧ cW (forS (List.drop i (octets')) (escaped_575, zeros_576) (fun s x => F_escape_b1  (s.1) (s.2) x)) K573 EE) ?_ ?_ ?_ ?_⟩
    · exact ⟨(([] : (List Int))), (0), _, _, rfl, (Same.refl _), S572, h570, hw⟩
    · intro i σ H578 _ hw
      obtain ⟨escaped_575, zeros_576, u577, G581, rfl, eG582, S579, h580, hw⟩ := hw
      exact (SqL.of (S579.bM _ _ q_octets))
    · intro i x σ H583 hj hw
      obtain ⟨escaped_575, zeros_576, u577, G586, rfl, eG587, S584, h585, hw⟩ := hw
      obtain ⟨x588, hx, rfl⟩ := map_get hj
      have hw := cW_forS hx hw
      have hw : cW (F_escape_b1  (escaped_575) (zeros_576) (x588)) _ EE := hw
      unfold F_escape_b1 at hw
      obtain ⟨K591, hK592, hw⟩ := cW_name hw
      refine ⟨fun σ H' => ∃ (escaped_597 : (List Int)) (zeros_598 : Int) (G' : Hp), σ = [some (V.ref a_octets), some (V.ref p564), some (V.int zeros_598), some (V.int (x588))] ∧ Same G586 G' ∧ Sep [] H G G' H' [p564] ∧ H' p564 = some (.lst ((escaped_597 : (List Int)).map V.int)) ∧ cW (F_escape_k2 (x588) escaped_597 zeros_598) K591 EE, ?_, ?_⟩
      · obtain ⟨K599, hK600, hw⟩ := cW_push hw
        refine ⟨_, rfl, _, _, rfl, rfl, _, rfl, ?_⟩
        refine iteD (fun c601 => ?_) (fun c601 => ?_)
        · have hw := cW_pos c601 hw
          refine ⟨_, rfl, _, _, rfl, rfl, _, rfl, ?_⟩
          refine iteD (fun c602 => ?_) (fun c602 => ?_)
          · have hw := cW_pos c602 hw
            obtain ⟨g603, hw⟩ := cW_grd hw
            refine ⟨_, rfl, (.inl ⟨rfl, _, SqL.of h585⟩), _, _, _, rfl, rfl, h585, (app_lenM g603), ?_⟩
            generalize g604 : upd H583 p564 _ = H605
            obtain ⟨x606, h607⟩ := gen_mut g604
            have h608 : H605 p564 = some (.lst (((escaped_575) ++ [3] : (List Int)).map V.int)) := snoc_map h607
            have S609 := S584.mut1 x606 (.head _) h608
            have hw := cW_bnd hw
            have hw := cW_ok hw
            have hw := hK600 _ hw
            exact ⟨((escaped_575) ++ [3]), (0), _, rfl, (Same.refl _), S609, h608, hw⟩
          · have hw := cW_neg c602 hw
            have hw := cW_ok hw
            have hw := hK600 _ hw
            exact ⟨(escaped_575), (zeros_576), _, rfl, (Same.refl _), S584, h585, hw⟩
        · have hw := cW_neg c601 hw
          refine iteF ?_
          have hw := cW_ok hw
          have hw := hK600 _ hw
          exact ⟨(escaped_575), (zeros_576), _, rfl, (Same.refl _), S584, h585, hw⟩
      · intro σ H611 hw
        obtain ⟨escaped_597, zeros_598, G614, rfl, eG615, S612, h613, hw⟩ := hw
        unfold F_escape_k2 at hw
        obtain ⟨g616, hw⟩ := cW_grd hw
        refine ⟨_, rfl, (.inl ⟨rfl, _, SqL.of h613⟩), _, rfl, _, _, _, rfl, rfl, h613, (app_lenM g616), ?_⟩
        generalize g617 : upd H611 p564 _ = H618
        obtain ⟨x619, h620⟩ := gen_mut g617
        have h621 : H618 p564 = some (.lst (((escaped_597) ++ [x588] : (List Int)).map V.int)) := snoc_map h620
        have S622 := S612.mut1 x619 (.head _) h621
        have hw := cW_bnd hw
        refine vv_if (p := (x588 : Int) = 0) (ta := (tOp (rI0 fun i j => V.int (i + j)) (tVar 2) (tC (V.int 1)))) (tb := (tC (V.int 0))) (t := tB (tEqI (tVar 3) (tC (V.int 0)))) (a := (zeros_598 + 1)) (b := 0) ?hx624 ?hy625 ?hz626 _ ?_
        case hx624 => exact vt_cmp (vv_cmp (val_var rfl) val_c (fun Q q => ⟨_, _, rfl, rfl, q⟩))
        case hy625 => exact (val_op (val_var rfl) val_c (fun Q q => ⟨_, _, rfl, rfl, q⟩))
        case hz626 => exact val_c
        have hw := cW_bnd hw
        have hw := cW_ok hw
        have hw := hK592 _ hw
        exact ⟨((escaped_597) ++ [x588]), ((if (x588 : Int) = 0 then (zeros_598 + 1) else 0)), _, _, rfl, (Same.trans eG587 eG615), S622, h621, hw⟩
    · intro σ H628 hw
      obtain ⟨escaped_575, zeros_576, u577, G631, rfl, eG632, S629, h630, hw⟩ := hw
      have hw := hK574 _ (cW_forS0 (by rw [List.length_map]) hw)
      have hw : cW (F_escape_r1  (escaped_575) (zeros_576)) _ EE := hw
      unfold F_escape_r1 at hw
      refine ⟨_, rfl, ?_⟩
      have hw := cW_ok hw
      exact hK0 _ hw _ _ fr571 S629.b0 h630

abbrev N_write_unit : List Str := ["kind", "payload"]
theorem sc_write_unit : FnScope N_write_unit ["kind", "payload"] (defScope s_write_unit) := ⟨rfl, rfl, rfl, by decide +kernel, rfl, by decide +kernel, by decide +kernel⟩
theorem ok_write_unit (D : DefX K mg "write_unit" s_write_unit ["kind", "payload"] pats_write_unit) (T : Txt K mg AD) (c_escape : CalX P w K mg base 1 "escape" (sp_escape K AD) pats_escape) : CalX P w K mg base 2 "write_unit" (sp_write_unit K AD) pats_write_unit := by
  refine D.ok sc_write_unit (fun vs H Q E h => ?_) (fun f cdv A_ outer s H vs Q E hr h => ?_)
  · obtain ⟨G, kind', a_payload, payload', rfl, _⟩ := h
    rfl
  · obtain ⟨G, kind', a_payload, payload', rfl, sG, q_payload, hw⟩ := h
    refine ⟨_, (pss_cons (ps_if (pt_not (pt_chain op_le op_le pe_int (pv 0) (C8.pe_gc rfl T.g_GREATEST_KIND))) (pss_one (ps_raise rfl (takes_of rfl rfl rfl rfl) (pmk_own PySem.F.excBase_ValueError T.xx_OutOfRange T.xg_OutOfRange T.xk_OutOfRange (raises_own T.xb_OutOfRange T.xt_OutOfRange) rfl))) pss_nil)
      (pss_cons (ps_if (pt_cmp (pc_gt (pe_callB (call_lenLiK (K := K)) (by rfl) T.b_len (by decide +kernel) (pa_cons (pv 1) pa_nil)) (C8.pe_gc rfl T.g_MOST_OCTETS))) (pss_one (ps_raise rfl (takes_of rfl rfl rfl rfl) (pmk_own PySem.F.excBase_ValueError T.xx_OutOfRange T.xg_OutOfRange T.xk_OutOfRange (raises_own T.xb_OutOfRange T.xt_OutOfRange) rfl))) pss_nil)
      (pss_one (ps_ret (pe_op op_cat (pe_lst (pa_cons pe_int (pa_cons pe_int (pa_cons pe_int (pa_cons (pv 0) pa_nil))))) (vx_callX c_escape pat_escape_0 (.head _) hr (by decide) (takes_of rfl rfl rfl rfl) rfl (pa_cons (pe_op op_cat (pv 1) (pe_lst (pa_cons (C8.pe_gc rfl T.g_STOP) pa_nil))) pa_nil) pk_nil)))))), ?_⟩
    obtain ⟨KK, EE, hK0, hE, hw⟩ := cW_gen hw
    have S0 := Sep.startG sG
    unfold F_write_unit at hw
    refine ⟨_, rfl, _, _, rfl, rfl, _, rfl, ?_⟩
    refine iteD (fun c635 => ?_) (fun c635 => ?_)
    · have hw := cW_pos c635 hw
      refine ⟨_, _, rfl, rfl, _, rfl, ?_⟩
      refine iteN (fun c636 => ?_) (fun c636 => ?_)
      · have hw := cW_neg c636 hw
        exact hE 1 (cW_er hw) _ S0.b0
      · have hw := cW_pos c636 hw
        refine ⟨_, rfl, _, _, rfl, (SqL.of (S0.bM _ _ q_payload)), _, _, rfl, rfl, _, rfl, ?_⟩
        refine iteD (fun c637 => ?_) (fun c637 => ?_)
        · have hw := cW_pos c637 hw
          exact hE 1 (cW_er hw) _ S0.b0
        · have hw := cW_neg c637 hw
          refine ⟨_, rfl, (by show 4 ≤ sizeLine; decide), fun p638 n639 => ?_⟩
          generalize g640 : upd H p638 _ = H641
          obtain ⟨e642, h643⟩ := gen_new n639 g640
          have h644 : H641 p638 = some (.lst (([0, 0, 1, kind'] : (List Int)).map V.int)) := h643
          have fr645 := S0.free n639
          have S646 := S0.new n639 e642 h644 fr645
          refine ⟨_, rfl, (by show 1 ≤ sizeLine; decide), fun p647 n648 => ?_⟩
          generalize g649 : upd H641 p647 _ = H650
          obtain ⟨e651, h652⟩ := gen_new n648 g649
          have h653 : H650 p647 = some (.lst (([128] : (List Int)).map V.int)) := h652
          have fr654 := S646.free n648
          have S655 := S646.new n648 e651 h653 fr654
          obtain ⟨g656, hw⟩ := cW_grd hw
          refine ⟨_, _, _, _, rfl, rfl, (S655.bM _ _ q_payload), h653, (cat_lenM g656), fun p657 n658 => ?_⟩
          generalize g659 : upd H650 p657 _ = H660
          obtain ⟨e661, h662⟩ := gen_new n658 g659
          have h663 : H660 p657 = some (.lst (((payload') ++ ([128]) : (List Int)).map V.int)) := cat_map h662
          have fr664 := S655.free n658
          have S665 := S655.new n658 e661 h663 fr664
          refine ⟨rfl, rfl, G, _, _, rfl, S665.sG, (hide_nil h663), cW_call hw (fun v666 hw p669 H667 n670 e668 h671 => ?_) (fun e he H2 e2 => hE e he H2 (Same.trans S665.b0 e2))⟩
          have h672 : H667 p669 = some (.lst ((v666 : (List Int)).map V.int)) := h671
          have fr673 := S665.free n670
          have S674 := S665.new n670 e668 h672 fr673
          obtain ⟨g675, hw⟩ := cW_grd hw
          have h676 := (e668 _ _ (e661 _ _ (e651 _ _ h644)))
          refine ⟨_, _, _, _, rfl, rfl, h676, h672, (cat_lenM g675), fun p677 n678 => ?_⟩
          generalize g679 : upd H667 p677 _ = H680
          obtain ⟨e681, h682⟩ := gen_new n678 g679
          have h683 : H680 p677 = some (.lst ((([0, 0, 1, kind']) ++ (v666) : (List Int)).map V.int)) := cat_map h682
          have fr684 := S674.free n678
          have S685 := S674.new n678 e681 h683 fr684
          have hw := cW_ok hw
          exact hK0 _ hw _ _ fr684 S685.b0 h683
    · have hw := cW_neg c635 hw
      refine ⟨_, rfl, ?_⟩
      refine iteT ?_
      exact hE 1 (cW_er hw) _ S0.b0

abbrev N_write_units : List Str := ["units", "stream", "kind", "payload"]
theorem sc_write_units : FnScope N_write_units ["units"] (defScope s_write_units) := ⟨rfl, rfl, rfl, by decide +kernel, rfl, by decide +kernel, by decide +kernel⟩
theorem ok_write_units (D : DefX K mg "write_units" s_write_units ["units"] pats_write_units) (T : Txt K mg AD) (c_write_unit : CalX P w K mg base 2 "write_unit" (sp_write_unit K AD) pats_write_unit) : CalX P w K mg base 3 "write_units" (sp_write_units K AD) pats_write_units := by
  refine D.ok sc_write_units (fun vs H Q E h => ?_) (fun f cdv A_ outer s H vs Q E hr h => ?_)
  · obtain ⟨G, v_units, units', rfl, _⟩ := h
    rfl
  · obtain ⟨G, v_units, units', rfl, sG, r_units, hw⟩ := h
    refine ⟨_, (pss_cons (ps_set (i := 1) sc_write_units.nd rfl (Or.inl rfl) (pe_lst pa_nil))
      (pss_cons (ps_for (passes_of rfl) rfl (pi_listK (K := K) (pv 0)) (pg_tupK (K := K) (n := 2) (pgs_cons (pg_name (i := 2) sc_write_units.nd rfl (Or.inl rfl)) (pgs_cons (pg_name (i := 3) sc_write_units.nd rfl (Or.inl rfl)) pgs_nil))) (pss_one (ps_expr (pe_bm PySem.F.plainAttrs_list PySem.F.slot_list_extend PySem.F.type_list_extend mt_extend (pv 1) (pa_cons (vx_callX c_write_unit pat_write_unit_0 (.head _) hr (by decide) (takes_of rfl rfl rfl rfl) rfl (pa_cons (pv 2) (pa_cons (pv 3) pa_nil)) pk_nil) pa_nil)))))
      (pss_one (ps_ret (pv 1))))), ?_⟩
    obtain ⟨KK, EE, hK0, hE, hw⟩ := cW_gen hw
    have S0 := Sep.startG sG
    unfold F_write_units at hw
    obtain ⟨a686, vs687, rfl, h688, d689⟩ := rp_list r_units
    refine ⟨(by show 0 ≤ sizeLine; decide), fun p690 n691 => ?_⟩
    generalize g692 : upd H p690 _ = H693
    obtain ⟨e694, h695⟩ := gen_new n691 g692
    have h696 : H693 p690 = some (.lst ((([] : (List Int)) : (List Int)).map V.int)) := h695
    have fr697 := S0.free n691
    have S698 := S0.new n691 e694 h696 fr697
    obtain ⟨K699, hK700, hw⟩ := cW_push hw
    refine ⟨_, rfl, _, rfl, ⟨_, (SqL.of (S698.bM _ _ h688))⟩, for_list (K := K) (a := a686) (xs := vs687) (fun i σ H' => ∃ (stream_701 : (List Int)) (u702 : Option V) (u703 : Option V) (G' : Hp), σ = [some (V.ref a686), some (V.ref p690), u702, u703] ∧ Same G G' ∧ Sep [] H G G' H' [p690] ∧ H' p690 = some (.lst ((stream_701 : (List Int)).map V.int)) ∧ cW (forS (List.drop i (units')) stream_701 (fun s x => F_write_units_b1  s x)) K699 EE) ?_ ?_ ?_ ?_⟩
    · exact ⟨(([] : (List Int))), _, _, _, rfl, (Same.refl _), S698, h696, hw⟩
    · intro i σ H704 _ hw
      obtain ⟨stream_701, u702, u703, G707, rfl, eG708, S705, h706, hw⟩ := hw
      exact (SqL.of (S705.bM _ _ h688))
    · intro i x σ H709 hj hw
      obtain ⟨stream_701, u702, u703, G712, rfl, eG713, S710, h711, hw⟩ := hw
      obtain ⟨x714, hx, r715⟩ := RpAll.get d689 hj
      obtain ⟨a716, v718, v719, rfl, h717, r720, r721⟩ := rp_tup2 r715
      obtain rfl := rp_int r720
      obtain ⟨a722, rfl, h723⟩ := rp_ints r721
      have hw := cW_forS hx hw
      have hw : cW (F_write_units_b1  (stream_701) (x714)) _ EE := hw
      unfold F_write_units_b1 at hw
      obtain ⟨K725, hK726, hw⟩ := cW_name hw
      refine ⟨_, _, rfl, (SqT.of (S710.bM _ _ h717)), rfl, _, _, rfl, _, _, rfl, rfl, _, rfl, (.inl ⟨rfl, _, SqL.of h711⟩), _, rfl, _, rfl, rfl, rfl, G712, _, _, _, rfl, S710.sG, (hide_nil (S710.bM _ _ h723)), cW_call hw (fun v728 hw p731 H729 n732 e730 h733 => ?_) (fun e he H2 e2 => hE e he H2 (Same.trans S710.b0 e2))⟩
      have h734 : H729 p731 = some (.lst ((v728 : (List Int)).map V.int)) := h733
      have fr735 := S710.free n732
      have S736 := S710.new n732 e730 h734 fr735
      obtain ⟨g737, hw⟩ := cW_grd hw
      have h738 := (e730 _ _ h711)
      refine ⟨_, _, _, _, rfl, rfl, h738, h734, (cat_lenM g737), ?_⟩
      generalize g739 : upd H729 p690 _ = H740
      obtain ⟨x741, h742⟩ := gen_mut g739
      have h743 : H740 p690 = some (.lst (((stream_701) ++ (v728) : (List Int)).map V.int)) := cat_map h742
      have S744 := S736.mut1 x741 (.tail _ (.head _)) h743
      have hw := cW_bnd hw
      have hw := cW_ok hw
      have hw := hK726 _ hw
      exact ⟨((stream_701) ++ (v728)), _, _, _, rfl, eG713, (S744.sub (all_cons (.tail _ (.head _)) all_nil)), h743, hw⟩
    · intro σ H746 hw
      obtain ⟨stream_701, u702, u703, G749, rfl, eG750, S747, h748, hw⟩ := hw
      have hw := hK700 _ (cW_forS0 (by rw [d689.len, List.length_map]) hw)
      have hw : cW (F_write_units_r1  (stream_701)) _ EE := hw
      unfold F_write_units_r1 at hw
      refine ⟨_, rfl, ?_⟩
      have hw := cW_ok hw
      exact hK0 _ hw _ _ fr697 S747.b0 h748

abbrev N__law_refused : List Str := ["kind", "payload", "units", "count", "before", "e"]
theorem sc__law_refused : FnScope N__law_refused ["kind", "payload", "units"] (defScope s__law_refused) := ⟨rfl, rfl, rfl, by decide +kernel, rfl, by decide +kernel, by decide +kernel⟩
theorem ok__law_refused (D : DefX K mg "_law_refused" s__law_refused ["kind", "payload", "units"] pats__law_refused) (T : Txt K mg AD) (c_write_unit : CalX P w K mg base 2 "write_unit" (sp_write_unit K AD) pats_write_unit) (c_write_units : CalX P w K mg base 3 "write_units" (sp_write_units K AD) pats_write_units) : CalX P w K mg base 4 "_law_refused" (sp__law_refused K AD) pats__law_refused := by
  refine D.ok sc__law_refused (fun vs H Q E h => ?_) (fun f cdv A_ outer s H vs Q E hr h => ?_)
  · obtain ⟨G, kind', a_payload, payload', v_units, units', rfl, _⟩ := h
    rfl
  · obtain ⟨G, kind', a_payload, payload', v_units, units', rfl, sG, q_payload, r_units, hw⟩ := h
    refine ⟨_, (pss_cons (ps_set (i := 3) sc__law_refused.nd rfl (Or.inl rfl) pe_int)
      (pss_cons (ps_set (i := 4) sc__law_refused.nd rfl (Or.inl rfl) (pe_callTy (call_listLK (K := K)) (by rfl) T.b_list (by decide +kernel) (pa_cons (pv 1) pa_nil)))
      (C8.pss_cut (ps_try_as (i := 5) rfl rfl sc__law_refused.nd rfl rfl ⟨rfl, by decide, .inl T.xg_OutOfRange⟩ (takes_of rfl rfl rfl rfl) (fun W pn xe tk pse => (pss_one (ps_expr (vx_callX c_write_unit pat_write_unit_0 (.head _) hr (by decide) tk rfl (pa_cons (pv 0) (pa_cons (pv 1) pa_nil)) pk_nil)))) (fun a oe cls d pn hz hf => (pss_one (ps_set (i := 3) sc__law_refused.nd rfl (Or.inl rfl) (pe_op op_add (pv 3) (pe_callTy call_int1 (by rfl) T.b_int (by decide +kernel) (pa_cons (pe_callB (call_isX (K := K) hz hf) (by rfl) T.b_isinstance (by decide +kernel) (pa_cons (pv 5) (pa_cons (C8.pe_gc (v := V.ref AD.x_CodecError) rfl ⟨_, T.xg_CodecError, rfl⟩) pa_nil))) pa_nil)))))))
      (C8.pss_cut (ps_try_as (i := 5) rfl rfl sc__law_refused.nd rfl rfl ⟨rfl, by decide, .inl T.xg_OutOfRange⟩ (takes_of rfl rfl rfl rfl) (fun W pn xe tk pse => (pss_one (ps_expr (vx_callX c_write_units pat_write_units_0 (.head _) hr (by decide) tk rfl (pa_cons (pe_op op_cat (pe_op op_cat (pv 2) (pe_lst (pa_cons (pe_tup (pa_cons (pv 0) (pa_cons (pv 1) pa_nil))) pa_nil))) (pv 2)) pa_nil) pk_nil)))) (fun a oe cls d pn hz hf => (pss_one (ps_set (i := 3) sc__law_refused.nd rfl (Or.inl rfl) (pe_op op_add (pv 3) (pe_callTy call_int1 (by rfl) T.b_int (by decide +kernel) (pa_cons (pe_callB (call_isX (K := K) hz hf) (by rfl) T.b_isinstance (by decide +kernel) (pa_cons (pv 5) (pa_cons (C8.pe_gc (v := V.ref AD.x_CodecError) rfl ⟨_, T.xg_CodecError, rfl⟩) pa_nil))) pa_nil)))))))
      (pss_one (ps_ret (pe_and (pe_cmp (pc_eqI (pv 3) pe_int)) (pe_one (pe_cmpR (op_eqT (encOk_L encOk_int) hr.units) (pv 1) (pv 4) (nomark _)))))))))), ?_⟩
    obtain ⟨KK, EE, hK0, hE, hw⟩ := cW_gen hw
    have S0 := Sep.startG sG
    unfold F__law_refused at hw
    obtain ⟨a752, vs753, rfl, h754, d755⟩ := rp_list r_units
    refine ⟨_, rfl, _, _, rfl, (SqL.of (S0.sG _ _ q_payload)), fun p756 n757 => ?_⟩
    generalize g758 : upd H p756 _ = H759
    obtain ⟨e760, h761⟩ := gen_new n757 g758
    have h762 : H759 p756 = some (.lst ((payload' : (List Int)).map V.int)) := h761
    have fr763 := S0.free n757
    have S764 := S0.new n757 e760 h762 fr763
    refine ⟨fun σ H' => ∃ (count_770 : Int) (u771 : Option V) (G' : Hp), σ = [some (V.int (kind')), some (V.ref a_payload), some (V.ref a752), some (V.int count_770), some (V.ref p756), u771] ∧ Same G G' ∧ Sep [] H G G' H' [p756] ∧ H' p756 = some (.lst ((payload' : (List Int)).map V.int)) ∧ cW (F__law_refused_k1 (kind') (payload') (units') (payload') count_770) KK EE, ?_, ?_⟩
    · obtain ⟨K772, hK773, hw⟩ := cW_push hw
      refine ⟨_, rfl, _, rfl, rfl, rfl, G, _, _, _, rfl, S764.sG, (hide_nil (S764.sG _ _ q_payload)), cW_try hw (fun v774 hw p777 H775 n778 e776 h779 => ?_) ?_⟩
      · have h780 : H775 p777 = some (.lst ((v774 : (List Int)).map V.int)) := h779
        have fr781 := S764.free n778
        have S782 := S764.new n778 e776 h780 fr781
        have hw := cW_ok hw
        have hw := hK773 _ hw
        have h783 := (e776 _ _ h762)
        exact ⟨(0), _, _, rfl, (Same.refl _), (S782.sub (all_cons (.tail _ (.head _)) all_nil)), h783, hw⟩
      · intro e hm hw H784 e785
        have S786 := S764.same e785
        obtain rfl := mem_one hm
        refine ⟨true, T.xm_OutOfRange_OutOfRange, fun _ a787 na788 => ?_, fun q => nomatch q⟩
        refine ⟨_, rfl, _, rfl, _, _, _, rfl, rfl, T.xc_OutOfRange, rfl, T.xo_OutOfRange_CodecError, .inr ⟨_, rfl, ?_⟩⟩
        refine ⟨_, _, rfl, rfl, ?_⟩
        have hw := cW_bnd hw
        have hw := cW_ok hw
        have hw := hK773 _ hw
        have h790 := (e785 _ _ h762)
        exact ⟨((0 + (if true = true then 1 else 0))), _, _, rfl, (Same.refl _), S786, h790, hw⟩
    · intro σ H791 hw
      obtain ⟨count_770, u771, G794, rfl, eG795, S792, h793, hw⟩ := hw
      unfold F__law_refused_k1 at hw
      refine ⟨fun σ H' => ∃ (count_799 : Int) (u800 : Option V) (G' : Hp), σ = [some (V.int (kind')), some (V.ref a_payload), some (V.ref a752), some (V.int count_799), some (V.ref p756), u800] ∧ Same G794 G' ∧ Sep [] H G G' H' [p756] ∧ H' p756 = some (.lst ((payload' : (List Int)).map V.int)) ∧ cW (F__law_refused_k2 (payload') (payload') count_799) KK EE, ?_, ?_⟩
      · obtain ⟨K801, hK802, hw⟩ := cW_push hw
        refine ⟨_, rfl, _, rfl, _, rfl, (by show 2 ≤ sizeLine; decide), fun p803 n804 => ?_⟩
        generalize g805 : upd H791 p803 _ = H806
        obtain ⟨e807, h808⟩ := gen_new n804 g805
        have h809 : H806 p803 = some (.tup [V.int (kind'), V.ref a_payload]) := h808
        have fr810 := S792.free n804
        obtain ⟨G812, eG813, hg814, S811⟩ := S792.grow n804 e807 h809 fr810
        refine ⟨(by show 1 ≤ sizeLine; decide), fun p815 n816 => ?_⟩
        generalize g817 : upd H806 p815 _ = H818
        obtain ⟨e819, h820⟩ := gen_new n816 g817
        have h821 : H818 p815 = some (.lst ([V.ref p803])) := h820
        have fr822 := S811.free n816
        have S823 := S811.new n816 e819 h821 fr822
        have d824 : RpAll G812 ([V.ref p803]) (([(kind', payload')] : (List (Int × (List Int)))).map (encT2 PyData.int (encL PyData.int))) := (RpAll.cons (rp_mk2 hg814 (.int _) (rp_mk_ints (eG813 _ _ (eG795 _ _ q_payload)))) RpAll.nil)
        obtain ⟨g825, hw⟩ := cW_grd hw
        obtain ⟨G826, eG827, hg828, S829⟩ := Sep.freeze (O' := [p756]) S823 (.head _) h821 fr822 ((all_cons ⟨(.tail _ (.head _)), (ne_of_none (e807 _ _ h793) n816)⟩ all_nil))
        refine ⟨_, _, _, _, rfl, rfl, (S823.sG _ _ (eG813 _ _ (eG795 _ _ h754))), h821, (cat_len (RpAll.mono eG813 (RpAll.mono eG795 d755)) d824 g825), fun p830 n831 => ?_⟩
        generalize g832 : upd H818 p830 _ = H833
        obtain ⟨e834, h835⟩ := gen_new n831 g832
        have h836 : H833 p830 = some (.lst (vs753 ++ [V.ref p803])) := h835
        have fr837 := S829.free n831
        have S838 := S829.new n831 e834 h836 fr837
        have d839 : RpAll G826 (vs753 ++ [V.ref p803]) (((units') ++ ([(kind', payload')]) : (List (Int × (List Int)))).map (encT2 PyData.int (encL PyData.int))) := app_map (RpAll.mono eG827 (RpAll.mono eG813 (RpAll.mono eG795 d755))) (RpAll.mono eG827 d824)
        obtain ⟨g840, hw⟩ := cW_grd hw
        obtain ⟨G841, eG842, hg843, S844⟩ := Sep.freeze (O' := [p756]) S838 (.head _) h836 fr837 ((all_cons ⟨(.tail _ (.head _)), (ne_of_none (e819 _ _ (e807 _ _ h793)) n831)⟩ all_nil))
        refine ⟨_, rfl, _, _, _, _, rfl, rfl, h836, (S838.sG _ _ (eG827 _ _ (eG813 _ _ (eG795 _ _ h754)))), (cat_len d839 (RpAll.mono eG827 (RpAll.mono eG813 (RpAll.mono eG795 d755))) g840), fun p845 n846 => ?_⟩
        generalize g847 : upd H833 p845 _ = H848
        obtain ⟨e849, h850⟩ := gen_new n846 g847
        have h851 : H848 p845 = some (.lst (vs753 ++ [V.ref p803] ++ vs753)) := h850
        have fr852 := S844.free n846
        have S853 := S844.new n846 e849 h851 fr852
        have d854 : RpAll G841 (vs753 ++ [V.ref p803] ++ vs753) ((((units') ++ ([(kind', payload')])) ++ (units') : (List (Int × (List Int)))).map (encT2 PyData.int (encL PyData.int))) := app_map (RpAll.mono eG842 d839) (RpAll.mono eG842 (RpAll.mono eG827 (RpAll.mono eG813 (RpAll.mono eG795 d755))))
        refine ⟨rfl, rfl, G841, _, _, rfl, S853.sG, (Rp.hide_nil (rp_mk_list h851 (RpAll.mono S853.sG d854))), cW_try hw (fun v855 hw p858 H856 n859 e857 h860 => ?_) ?_⟩
        · have h861 : H856 p858 = some (.lst ((v855 : (List Int)).map V.int)) := h860
          have fr862 := S853.free n859
          have S863 := S853.new n859 e857 h861 fr862
          have hw := cW_ok hw
          have hw := hK802 _ hw
          have h864 := (e857 _ _ (e849 _ _ (e834 _ _ (e819 _ _ (e807 _ _ h793)))))
          exact ⟨(count_770), _, _, rfl, (Same.trans (Same.trans eG813 eG827) eG842), (S863.sub (all_cons (.tail _ (.tail _ (.head _))) all_nil)), h864, hw⟩
        · intro e hm hw H865 e866
          have S867 := S853.same e866
          obtain rfl := mem_one hm
          refine ⟨true, T.xm_OutOfRange_OutOfRange, fun _ a868 na869 => ?_, fun q => nomatch q⟩
          refine ⟨_, rfl, _, rfl, _, _, _, rfl, rfl, T.xc_OutOfRange, rfl, T.xo_OutOfRange_CodecError, .inr ⟨_, rfl, ?_⟩⟩
          refine ⟨_, _, rfl, rfl, ?_⟩
          have hw := cW_bnd hw
          have hw := cW_ok hw
          have hw := hK802 _ hw
          have h871 := (e866 _ _ (e849 _ _ (e834 _ _ (e819 _ _ (e807 _ _ h793)))))
          exact ⟨((count_770 + (if true = true then 1 else 0))), _, _, rfl, (Same.trans (Same.trans eG813 eG827) eG842), (S867.sub (all_cons (.tail _ (.head _)) all_nil)), h871, hw⟩
      · intro σ H872 hw
        obtain ⟨count_799, u800, G875, rfl, eG876, S873, h874, hw⟩ := hw
        unfold F__law_refused_k2 at hw
        refine ⟨_, rfl, _, _, rfl, rfl, _, rfl, ?_⟩
        refine iteB (fun c877 => ?_) (fun c877 => ?_)
        · have hw := cW_pos c877 hw
          refine ⟨_, rfl, _, rfl, _, _, (rp_mk_ints (S873.sG _ _ (eG876 _ _ (eG795 _ _ q_payload)))), (rp_mk_ints h874), ?_⟩
          have hw := cW_ok hw
          exact hK0 _ hw _ S873.b0
        · have hw := cW_negB c877 hw
          have hw := cW_ok hw
          exact hK0 _ hw _ S873.b0

abbrev N__starts : List Str := ["octets", "index"]
theorem sc__starts : FnScope N__starts ["octets"] (defScope s__starts) := ⟨rfl, rfl, rfl, by decide +kernel, rfl, by decide +kernel, by decide +kernel⟩
theorem ok__starts (D : DefX K mg "_starts" s__starts ["octets"] pats__starts) (T : Txt K mg AD)  : CalX P w K mg base 1 "_starts" (sp__starts K AD) pats__starts := by
  refine D.ok sc__starts (fun vs H Q E h => ?_) (fun f cdv A_ outer s H vs Q E hr h => ?_)
  · obtain ⟨G, a_octets, octets', rfl, _⟩ := h
    rfl
  · obtain ⟨G, a_octets, octets', rfl, sG, q_octets, hw⟩ := h
    refine ⟨_, (pss_one (ps_ret (pe_lc (own := [("index", 1)]) (g := gName 1) (by rfl) sc__starts.nd (pi_range1 rfl T.b_range (pa_cons (pe_op op_sub (pe_callB (call_lenLiK (K := K)) (by rfl) T.b_len (by decide +kernel) (pa_cons (pv 0) pa_nil)) pe_int) pa_nil)) (blkOk_by (own := [("index", 1)]) (N := N__starts) (sc := defScope s__starts) (by decide +kernel)) (fun _ _ _ _ _ => (pg_name (i := 1) sc__starts.nd rfl (Or.inl rfl))) (fun _ _ _ _ _ => pts_one (PW.pt (pw_and (pt_cmp (pc_eqI (pe_ix (ix_listK (K := K)) (pv 0) (pv 1) (fun _ _ => rfl)) pe_int)) (pw_and (pt_cmp (pc_eqI (pe_ix (ix_listK (K := K)) (pv 0) (pe_op op_add (pv 1) pe_int) (fun _ _ => rfl)) pe_int)) (pw_and1 (pt_cmp (pc_eqI (pe_ix (ix_listK (K := K)) (pv 0) (pe_op op_add (pv 1) pe_int) (fun _ _ => rfl)) pe_int))))))) (fun _ _ _ _ _ => (pv 1))))), ?_⟩
    obtain ⟨KK, EE, hK0, hE, hw⟩ := cW_gen hw
    have S0 := Sep.startG sG
    unfold F__starts at hw
    obtain ⟨g878, hw⟩ := cW_grd hw
    obtain ⟨K881, hK882, hw⟩ := cW_push hw
    refine ⟨_, rfl, _, _, rfl, (SqL.of (S0.bM _ _ q_octets)), _, _, rfl, rfl, _, rfl, g878.1, g878.2, fun D883 n884 => lc_range (lo := 0) (n := Int.toNat (((((octets') : (List Int)).length : Int) - 2))) (fun i H' => ∃ (G' : Hp) (acc886 : (List Int)), Same G G' ∧ Sep [] H G G' H' [D883] ∧ H' D883 = some (.lst ((acc886 : (List Int)).map V.int)) ∧ Same H H' ∧ cW (mapF (List.drop i (rng (0) (Int.toNat (((((octets') : (List Int)).length : Int) - 2))))) acc886 (fun x => noEr (F__starts_c1 (octets') x))) K881 EE) ?_ ?_ ?_⟩
    · generalize g888 : upd H D883 _ = H889
      obtain ⟨e890, h891⟩ := gen_new n884 g888
      have fr892 := S0.free n884
      have S893 := S0.new n884 e890 h891 fr892
      exact ⟨_, [], Same.refl _, S893, h891, e890, hw⟩
    · intro i H894 hi hw
      obtain ⟨G897, acc899, eG898, S895, h896, eo905, hw⟩ := hw
      obtain ⟨z906, hw⟩ := cW_mapF (rng_get hi) hw
      generalize (0 + (i : Int)) = x907 at hw ⊢
      have hw := cW_noEr hw
      have hw : cW (F__starts_c1 (octets') (x907)) _ (fun _ => False) := hw
      unfold F__starts_c1 at hw
      refine ⟨rfl, ?_⟩
      obtain ⟨g909, hw⟩ := cW_grd hw
      refine ⟨_, rfl, _, rfl, _, _, _, _, rfl, rfl, (SqL.of (S895.bM _ _ q_octets)), (atI_map g909), _, _, rfl, rfl, _, rfl, ?_⟩
      refine iteD (fun c910 => ?_) (fun c910 => ?_)
      · have hw := cW_pos c910 hw
        obtain ⟨g911, hw⟩ := cW_grd hw
        refine ⟨_, rfl, _, rfl, _, _, rfl, rfl, _, _, _, _, rfl, rfl, (SqL.of (S895.bM _ _ q_octets)), (atI_map g911), _, _, rfl, rfl, _, rfl, ?_⟩
        refine iteD (fun c912 => ?_) (fun c912 => ?_)
        · have hw := cW_pos c912 hw
          obtain ⟨g913, hw⟩ := cW_grd hw
          refine ⟨_, rfl, _, rfl, _, _, rfl, rfl, _, _, _, _, rfl, rfl, (SqL.of (S895.bM _ _ q_octets)), (atI_map g913), _, _, rfl, rfl, _, rfl, ?_⟩
          refine iteD (fun c914 => ?_) (fun c914 => ?_)
          · have hw := cW_pos c914 hw
            refine ⟨_, rfl, _, h896, (app_lenM z906), ?_⟩
            generalize g915 : upd H894 D883 _ = H916
            obtain ⟨x917, h918⟩ := gen_mut g915
            have S919 := S895.mut1 x917 (.head _) h918
            have hw := cW_ok hw
            exact ⟨_, (acc899 ++ [x907]), eG898, S919, (snoc_map h918), (same_mut eo905 x917 n884), hw⟩
          · have hw := cW_neg c914 hw
            have hw := cW_ok hw
            exact ⟨_, acc899, eG898, S895, h896, eo905, hw⟩
        · have hw := cW_neg c912 hw
          refine iteF ?_
          have hw := cW_ok hw
          exact ⟨_, acc899, eG898, S895, h896, eo905, hw⟩
      · have hw := cW_neg c910 hw
        refine iteF ?_
        have hw := cW_ok hw
        exact ⟨_, acc899, eG898, S895, h896, eo905, hw⟩
    intro H920 hw
    obtain ⟨G923, acc925, eG924, S921, h922, eo931, hw⟩ := hw
    have hw := hK882 _ (cW_mapF0 (rng_len _ _).symm hw)
    have fr932 := S0.free n884
    have hw := cW_ok hw
    exact hK0 _ hw _ _ fr932 S921.b0 h922

abbrev N_unescape : List Str := ["octets", "kept", "zeros", "octet"]
theorem sc_unescape : FnScope N_unescape ["octets"] (defScope s_unescape) := ⟨rfl, rfl, rfl, by decide +kernel, rfl, by decide +kernel, by decide +kernel⟩
theorem ok_unescape (D : DefX K mg "unescape" s_unescape ["octets"] pats_unescape) (T : Txt K mg AD)  : CalX P w K mg base 1 "unescape" (sp_unescape K AD) pats_unescape := by
  refine D.ok sc_unescape (fun vs H Q E h => ?_) (fun f cdv A_ outer s H vs Q E hr h => ?_)
  · obtain ⟨G, a_octets, octets', rfl, _⟩ := h
    rfl
  · obtain ⟨G, a_octets, octets', rfl, sG, q_octets, hw⟩ := h
    refine ⟨_, (pss_cons (ps_set (i := 1) sc_unescape.nd rfl (Or.inl rfl) (pe_lst pa_nil))
      (pss_cons (ps_set (i := 2) sc_unescape.nd rfl (Or.inl rfl) pe_int)
      (pss_cons (ps_for (passes_of rfl) rfl (pi_listK (K := K) (pv 0)) (pg_name (i := 3) sc_unescape.nd rfl (Or.inl rfl)) (pss_one (ps_if (PW.pt (pw_and (pt_cmp (pc_ge (pv 2) pe_int)) (pw_and1 (pt_cmp (pc_eqI (pv 3) (C8.pe_gc rfl T.g_ESCAPE)))))) (pss_one (ps_set (i := 2) sc_unescape.nd rfl (Or.inl rfl) pe_int)) (pss_cons (ps_expr (pe_bm PySem.F.plainAttrs_list PySem.F.slot_list_append PySem.F.type_list_append mt_append (pv 1) (pa_cons (pv 3) pa_nil)))
      (pss_one (ps_set (i := 2) sc_unescape.nd rfl (Or.inl rfl) (pe_ifExp (pt_cmp (pc_eqI (pv 3) pe_int)) (pe_op op_add (pv 2) pe_int) pe_int)))))))
      (pss_one (ps_ret (pv 1)))))), ?_⟩
    obtain ⟨KK, EE, hK0, hE, hw⟩ := cW_gen hw
    have S0 := Sep.startG sG
    unfold F_unescape at hw
    refine ⟨(by show 0 ≤ sizeLine; decide), fun p933 n934 => ?_⟩
    generalize g935 : upd H p933 _ = H936
    obtain ⟨e937, h938⟩ := gen_new n934 g935
    have h939 : H936 p933 = some (.lst ((([] : (List Int)) : (List Int)).map V.int)) := h938
    have fr940 := S0.free n934
    have S941 := S0.new n934 e937 h939 fr940
    obtain ⟨K942, hK943, hw⟩ := cW_push hw
    refine ⟨_, rfl, _, rfl, ⟨_, (SqL.of (S941.bM _ _ q_octets))⟩, for_list (K := K) (a := a_octets) (xs := (octets' : List Int).map V.int) (fun i σ H' => ∃ (kept_944 : (List Int)) (zeros_945 : Int) (u946 : Option V) (G' : Hp), σ = [some (V.ref a_octets), some (V.ref p933), some (V.int zeros_945), u946] ∧ Same G G' ∧ Sep [] H G G' H' [p933] ∧ H' p933 = some (.lst ((kept_944 : (List Int)).map V.int)) ∧ cW (forS (List.drop i (octets')) (kept_944, zeros_945) (fun s x => F_unescape_b1  (s.1) (s.2) x)) K942 EE) ?_ ?_ ?_ ?_⟩
    · exact ⟨(([] : (List Int))), (0), _, _, rfl, (Same.refl _), S941, h939, hw⟩
    · intro i σ H947 _ hw
      obtain ⟨kept_944, zeros_945, u946, G950, rfl, eG951, S948, h949, hw⟩ := hw
      exact (SqL.of (S948.bM _ _ q_octets))
    · intro i x σ H952 hj hw
      obtain ⟨kept_944, zeros_945, u946, G955, rfl, eG956, S953, h954, hw⟩ := hw
      obtain ⟨x957, hx, rfl⟩ := map_get hj
      have hw := cW_forS hx hw
      have hw : cW (F_unescape_b1  (kept_944) (zeros_945) (x957)) _ EE := hw
      unfold F_unescape_b1 at hw
      obtain ⟨K960, hK961, hw⟩ := cW_name hw
      refine ⟨_, rfl, _, _, rfl, rfl, _, rfl, ?_⟩
      refine iteD (fun c963 => ?_) (fun c963 => ?_)
      · have hw := cW_pos c963 hw
        refine ⟨_, rfl, _, _, rfl, rfl, _, rfl, ?_⟩
        refine iteD (fun c964 => ?_) (fun c964 => ?_)
        · have hw := cW_pos c964 hw
          have hw := cW_ok hw
          have hw := hK961 _ hw
          exact ⟨(kept_944), (0), _, _, rfl, eG956, S953, h954, hw⟩
        · have hw := cW_neg c964 hw
          obtain ⟨g965, hw⟩ := cW_grd hw
          refine ⟨_, rfl, (.inl ⟨rfl, _, SqL.of h954⟩), _, rfl, _, _, _, rfl, rfl, h954, (app_lenM g965), ?_⟩
          generalize g966 : upd H952 p933 _ = H967
          obtain ⟨x968, h969⟩ := gen_mut g966
          have h970 : H967 p933 = some (.lst (((kept_944) ++ [x957] : (List Int)).map V.int)) := snoc_map h969
          have S971 := S953.mut1 x968 (.head _) h970
          have hw := cW_bnd hw
          refine vv_if (p := (x957 : Int) = 0) (ta := (tOp (rI0 fun i j => V.int (i + j)) (tVar 2) (tC (V.int 1)))) (tb := (tC (V.int 0))) (t := tB (tEqI (tVar 3) (tC (V.int 0)))) (a := (zeros_945 + 1)) (b := 0) ?hx973 ?hy974 ?hz975 _ ?_
          case hx973 => exact vt_cmp (vv_cmp (val_var rfl) val_c (fun Q q => ⟨_, _, rfl, rfl, q⟩))
          case hy974 => exact (val_op (val_var rfl) val_c (fun Q q => ⟨_, _, rfl, rfl, q⟩))
          case hz975 => exact val_c
          have hw := cW_bnd hw
          have hw := cW_ok hw
          have hw := hK961 _ hw
          exact ⟨((kept_944) ++ [x957]), ((if (x957 : Int) = 0 then (zeros_945 + 1) else 0)), _, _, rfl, eG956, S971, h970, hw⟩
      · have hw := cW_neg c963 hw
        refine iteF ?_
        obtain ⟨g977, hw⟩ := cW_grd hw
        refine ⟨_, rfl, (.inl ⟨rfl, _, SqL.of h954⟩), _, rfl, _, _, _, rfl, rfl, h954, (app_lenM g977), ?_⟩
        generalize g978 : upd H952 p933 _ = H979
        obtain ⟨x980, h981⟩ := gen_mut g978
        have h982 : H979 p933 = some (.lst (((kept_944) ++ [x957] : (List Int)).map V.int)) := snoc_map h981
        have S983 := S953.mut1 x980 (.head _) h982
        have hw := cW_bnd hw
        refine vv_if (p := (x957 : Int) = 0) (ta := (tOp (rI0 fun i j => V.int (i + j)) (tVar 2) (tC (V.int 1)))) (tb := (tC (V.int 0))) (t := tB (tEqI (tVar 3) (tC (V.int 0)))) (a := (zeros_945 + 1)) (b := 0) ?hx985 ?hy986 ?hz987 _ ?_
        case hx985 => exact vt_cmp (vv_cmp (val_var rfl) val_c (fun Q q => ⟨_, _, rfl, rfl, q⟩))
        case hy986 => exact (val_op (val_var rfl) val_c (fun Q q => ⟨_, _, rfl, rfl, q⟩))
        case hz987 => exact val_c
        have hw := cW_bnd hw
        have hw := cW_ok hw
        have hw := hK961 _ hw
        exact ⟨((kept_944) ++ [x957]), ((if (x957 : Int) = 0 then (zeros_945 + 1) else 0)), _, _, rfl, eG956, S983, h982, hw⟩
    · intro σ H989 hw
      obtain ⟨kept_944, zeros_945, u946, G992, rfl, eG993, S990, h991, hw⟩ := hw
      have hw := hK943 _ (cW_forS0 (by rw [List.length_map]) hw)
      have hw : cW (F_unescape_r1  (kept_944) (zeros_945)) _ EE := hw
      unfold F_unescape_r1 at hw
      refine ⟨_, rfl, ?_⟩
      have hw := cW_ok hw
      exact hK0 _ hw _ _ fr940 S990.b0 h991

abbrev N__read_raw : List Str := ["raw", "end", "payload"]
theorem sc__read_raw : FnScope N__read_raw ["raw"] (defScope s__read_raw) := ⟨rfl, rfl, rfl, by decide +kernel, rfl, by decide +kernel, by decide +kernel⟩
theorem ok__read_raw (D : DefX K mg "_read_raw" s__read_raw ["raw"] pats__read_raw) (T : Txt K mg AD) (c_unescape : CalX P w K mg base 1 "unescape" (sp_unescape K AD) pats_unescape) : CalX P w K mg base 2 "_read_raw" (sp__read_raw K AD) pats__read_raw := by
  refine D.ok sc__read_raw (fun vs H Q E h => ?_) (fun f cdv A_ outer s H vs Q E hr h => ?_)
  · obtain ⟨G, a_raw, raw', rfl, _⟩ := h
    rfl
  · obtain ⟨G, a_raw, raw', rfl, sG, q_raw, hw⟩ := h
    refine ⟨_, (pss_cons (ps_if (PW.pt (pw_or (pt_not (pt_truth (pv 0) (fun _ => rfl))) (pw_or1 (pt_not (pt_chain op_le op_le pe_int (pe_ix (ix_listK (K := K)) (pv 0) pe_int (fun _ _ => rfl)) (C8.pe_gc rfl T.g_GREATEST_KIND)))))) (pss_one (ps_ret (pe_tup (pa_cons pe_int (pa_cons (pe_lst pa_nil) pa_nil))))) pss_nil)
      (pss_cons (ps_set (i := 1) sc__read_raw.nd rfl (Or.inl rfl) (pe_callB (call_lenLiK (K := K)) (by rfl) T.b_len (by decide +kernel) (pa_cons (pv 0) pa_nil)))
      (pss_cons (ps_while (passes_of rfl) (pt_cmp (pc_eqI (pe_ix (ix_listK (K := K)) (pv 0) (pe_op op_sub (pv 1) pe_int) (fun _ _ => rfl)) pe_int)) (pss_one (ps_aug (i := 1) sc__read_raw.nd rfl (Or.inl rfl) pe_int (pip iop_sub))))
      (pss_cons (ps_if (pt_cmp (pc_neI (pe_ix (ix_listK (K := K)) (pv 0) (pe_op op_sub (pv 1) pe_int) (fun _ _ => rfl)) (C8.pe_gc rfl T.g_STOP))) (pss_one (ps_ret (pe_tup (pa_cons pe_int (pa_cons (pe_lst pa_nil) pa_nil))))) pss_nil)
      (pss_cons (ps_set (i := 2) sc__read_raw.nd rfl (Or.inl rfl) (vx_callX c_unescape pat_unescape_0 (.head _) hr (by decide) (takes_of rfl rfl rfl rfl) rfl (pa_cons (pe_slice (sl_listK (K := K)) (pv 0) (po_some pe_int) (po_some (pe_op op_sub (pv 1) pe_int))) pa_nil) pk_nil))
      (pss_cons (ps_if (pt_cmp (pc_gt (pe_callB (call_lenLiK (K := K)) (by rfl) T.b_len (by decide +kernel) (pa_cons (pv 2) pa_nil)) (C8.pe_gc rfl T.g_MOST_OCTETS))) (pss_one (ps_ret (pe_tup (pa_cons pe_int (pa_cons (pe_lst pa_nil) pa_nil))))) pss_nil)
      (pss_one (ps_ret (pe_tup (pa_cons (pe_ix (ix_listK (K := K)) (pv 0) pe_int (fun _ _ => rfl)) (pa_cons (pv 2) pa_nil))))))))))), ?_⟩
    obtain ⟨KK, EE, hK0, hE, hw⟩ := cW_gen hw
    have S0 := Sep.startG sG
    unfold F__read_raw at hw
    refine ⟨_, rfl, _, (.inl ⟨_, (SqL.of (S0.bM _ _ q_raw)), tru_map⟩), ?_⟩
    refine iteNN ?_
    refine iteD (fun c996 => ?_) (fun c996 => ?_)
    · have hw := cW_pos c996 hw
      refine iteT ?_
      refine ⟨(by show 0 ≤ sizeLine; decide), fun p997 n998 => ?_⟩
      generalize g999 : upd H p997 _ = H1000
      obtain ⟨e1001, h1002⟩ := gen_new n998 g999
      have h1003 : H1000 p997 = some (.lst ((([] : (List Int)) : (List Int)).map V.int)) := h1002
      have fr1004 := S0.free n998
      have S1005 := S0.new n998 e1001 h1003 fr1004
      refine ⟨(by show 2 ≤ sizeLine; decide), fun p1006 n1007 => ?_⟩
      generalize g1008 : upd H1000 p1006 _ = H1009
      obtain ⟨e1010, h1011⟩ := gen_new n1007 g1008
      have h1012 : H1009 p1006 = some (.tup [V.int (0), V.ref p997]) := h1011
      have fr1013 := S1005.free n1007
      obtain ⟨G1015, eG1016, hg1017, S1014⟩ := S1005.grow n1007 e1010 h1012 fr1013
      have h1018 := (e1010 _ _ h1003)
      obtain ⟨G1019, eG1020, hg1021, S1022⟩ := Sep.freeze (O' := []) S1014 (.head _) h1018 fr1004 (all_nil)
      have hw := cW_ok hw
      exact hK0 _ hw _ _ _ S1022.b0 S1022.g0 S1022.sG S1022.gn (rp_mk2 (eG1020 _ _ hg1017) (.int _) (rp_mk_ints hg1021))
    · have hw := cW_neg c996 hw
      obtain ⟨g1023, hw⟩ := cW_grd hw
      refine ⟨_, rfl, _, _, _, _, rfl, rfl, (SqL.of (S0.bM _ _ q_raw)), (atI_map g1023), _, _, rfl, rfl, _, rfl, ?_⟩
      refine iteD (fun c1024 => ?_) (fun c1024 => ?_)
      · have hw := cW_pos c1024 hw
        refine ⟨_, _, rfl, rfl, _, rfl, ?_⟩
        refine iteN (fun c1025 => ?_) (fun c1025 => ?_)
        · have hw := cW_neg c1025 hw
          refine ⟨(by show 0 ≤ sizeLine; decide), fun p1026 n1027 => ?_⟩
          generalize g1028 : upd H p1026 _ = H1029
          obtain ⟨e1030, h1031⟩ := gen_new n1027 g1028
          have h1032 : H1029 p1026 = some (.lst ((([] : (List Int)) : (List Int)).map V.int)) := h1031
          have fr1033 := S0.free n1027
          have S1034 := S0.new n1027 e1030 h1032 fr1033
          refine ⟨(by show 2 ≤ sizeLine; decide), fun p1035 n1036 => ?_⟩
          generalize g1037 : upd H1029 p1035 _ = H1038
          obtain ⟨e1039, h1040⟩ := gen_new n1036 g1037
          have h1041 : H1038 p1035 = some (.tup [V.int (0), V.ref p1026]) := h1040
          have fr1042 := S1034.free n1036
          obtain ⟨G1044, eG1045, hg1046, S1043⟩ := S1034.grow n1036 e1039 h1041 fr1042
          have h1047 := (e1039 _ _ h1032)
          obtain ⟨G1048, eG1049, hg1050, S1051⟩ := Sep.freeze (O' := []) S1043 (.head _) h1047 fr1033 (all_nil)
          have hw := cW_ok hw
          exact hK0 _ hw _ _ _ S1051.b0 S1051.g0 S1051.sG S1051.gn (rp_mk2 (eG1049 _ _ hg1046) (.int _) (rp_mk_ints hg1050))
        · have hw := cW_pos c1025 hw
          refine ⟨_, rfl, _, _, rfl, (SqL.of (S0.bM _ _ q_raw)), ?_⟩
          have hw := cW_bnd hw
          obtain ⟨K1055, hK1056, hw⟩ := cW_push hw
          refine ⟨fun m σ H' => ∃ (end_1057 : Int) (G' : Hp), σ = [some (V.ref a_raw), some (V.int end_1057), none] ∧ Same G G' ∧ Sep [] H G G' H' [] ∧ cW (whileR m end_1057 (fun s => F__read_raw_b1 (raw') s)) K1055 EE, ?_, ?_⟩
          · exact ⟨_, ⟨((((raw') : (List Int)).length : Int)), _, rfl, (Same.refl _), S0, hw⟩⟩
          · intro m σ H1058 hw
            obtain ⟨end_1057, G1060, rfl, eG1061, S1059, hw⟩ := hw
            obtain ⟨m1062, rfl, hw2⟩ := cW_whileR hw
            have hw := hw2
            have hw : cW (F__read_raw_b1 (raw') (end_1057)) _ EE := hw
            unfold F__read_raw_b1 at hw
            obtain ⟨K1064, hK1065, hw⟩ := cW_name hw
            obtain ⟨g1066, hw⟩ := cW_grd hw
            refine ⟨_, rfl, _, rfl, _, _, rfl, rfl, _, _, _, _, rfl, rfl, (SqL.of (S1059.bM _ _ q_raw)), (atI_map g1066), _, _, rfl, rfl, _, rfl, ?_⟩
            refine iteD (fun c1067 => ?_) (fun c1067 => ?_)
            · have hw := cW_pos c1067 hw
              refine ⟨(fun σ H' => ∃ m, (∃ (end_1057 : Int) (G' : Hp), σ = [some (V.ref a_raw), some (V.int end_1057), none] ∧ Same G G' ∧ Sep [] H G G' H' [] ∧ cW (whileR m end_1057 (fun s => F__read_raw_b1 (raw') s)) K1055 EE) ∧ m < m1062 + 1), (fun _ _ ⟨m', a, b⟩ => ⟨m', b, a⟩), ?_⟩
              refine ⟨_, rfl, _, _, rfl, rfl, ?_⟩
              have hw := cW_bnd hw
              have hw := cW_ok hw
              have hw := hK1065 _ hw
              exact ⟨m1062, ⟨((end_1057 - 1)), _, rfl, eG1061, S1059, hw⟩, Nat.lt_succ_self _⟩
            · have hw := cW_neg c1067 hw
              have hw := cW_ok hw
              have hw := hK1065 _ hw
              have hw := cW_aftgo (hK1056 (.go _) hw)
              have hw : cW (F__read_raw_r1 (raw') (end_1057)) _ EE := hw
              unfold F__read_raw_r1 at hw
              obtain ⟨g1070, hw⟩ := cW_grd hw
              refine ⟨_, rfl, _, rfl, _, _, rfl, rfl, _, _, _, _, rfl, rfl, (SqL.of (S1059.bM _ _ q_raw)), (atI_map g1070), _, _, rfl, rfl, _, rfl, ?_⟩
              refine iteN (fun c1071 => ?_) (fun c1071 => ?_)
              · have hw := cW_neg c1071 hw
                refine ⟨(by show 0 ≤ sizeLine; decide), fun p1072 n1073 => ?_⟩
                generalize g1074 : upd H1058 p1072 _ = H1075
                obtain ⟨e1076, h1077⟩ := gen_new n1073 g1074
                have h1078 : H1075 p1072 = some (.lst ((([] : (List Int)) : (List Int)).map V.int)) := h1077
                have fr1079 := S1059.free n1073
                have S1080 := S1059.new n1073 e1076 h1078 fr1079
                refine ⟨(by show 2 ≤ sizeLine; decide), fun p1081 n1082 => ?_⟩
                generalize g1083 : upd H1075 p1081 _ = H1084
                obtain ⟨e1085, h1086⟩ := gen_new n1082 g1083
                have h1087 : H1084 p1081 = some (.tup [V.int (0), V.ref p1072]) := h1086
                have fr1088 := S1080.free n1082
                obtain ⟨G1090, eG1091, hg1092, S1089⟩ := S1080.grow n1082 e1085 h1087 fr1088
                have h1093 := (e1085 _ _ h1078)
                obtain ⟨G1094, eG1095, hg1096, S1097⟩ := Sep.freeze (O' := []) S1089 (.head _) h1093 fr1079 (all_nil)
                have hw := cW_ok hw
                exact hK0 _ hw _ _ _ S1097.b0 S1097.g0 S1097.sG S1097.gn (rp_mk2 (eG1095 _ _ hg1092) (.int _) (rp_mk_ints hg1096))
              · have hw := cW_pos c1071 hw
                refine ⟨_, rfl, _, rfl, _, rfl, _, _, rfl, rfl, _, rfl, _, _, rfl, (SqL.of (S1059.bM _ _ q_raw)), fun p1098 n1099 => ?_⟩
                generalize g1100 : upd H1058 p1098 _ = H1101
                obtain ⟨e1102, h1103⟩ := gen_new n1099 g1100
                have h1104 : H1101 p1098 = some (.lst ((cutL (raw') (some (1)) (some ((end_1057 - 1))) : (List Int)).map V.int)) := cut_map h1103
                have fr1105 := S1059.free n1099
                have S1106 := S1059.new n1099 e1102 h1104 fr1105
                refine ⟨rfl, rfl, G1060, _, _, rfl, S1106.sG, (hide_nil h1104), cW_call hw (fun v1107 hw p1110 H1108 n1111 e1109 h1112 => ?_) (fun e he H2 e2 => hE e he H2 (Same.trans S1106.b0 e2))⟩
                have h1113 : H1108 p1110 = some (.lst ((v1107 : (List Int)).map V.int)) := h1112
                have fr1114 := S1106.free n1111
                have S1115 := S1106.new n1111 e1109 h1113 fr1114
                refine ⟨_, rfl, _, _, rfl, (SqL.of h1113), _, _, rfl, rfl, _, rfl, ?_⟩
                refine iteD (fun c1116 => ?_) (fun c1116 => ?_)
                · have hw := cW_pos c1116 hw
                  refine ⟨(by show 0 ≤ sizeLine; decide), fun p1117 n1118 => ?_⟩
                  generalize g1119 : upd H1108 p1117 _ = H1120
                  obtain ⟨e1121, h1122⟩ := gen_new n1118 g1119
                  have h1123 : H1120 p1117 = some (.lst ((([] : (List Int)) : (List Int)).map V.int)) := h1122
                  have fr1124 := S1115.free n1118
                  have S1125 := S1115.new n1118 e1121 h1123 fr1124
                  refine ⟨(by show 2 ≤ sizeLine; decide), fun p1126 n1127 => ?_⟩
                  generalize g1128 : upd H1120 p1126 _ = H1129
                  obtain ⟨e1130, h1131⟩ := gen_new n1127 g1128
                  have h1132 : H1129 p1126 = some (.tup [V.int (0), V.ref p1117]) := h1131
                  have fr1133 := S1125.free n1127
                  obtain ⟨G1135, eG1136, hg1137, S1134⟩ := S1125.grow n1127 e1130 h1132 fr1133
                  have h1138 := (e1130 _ _ h1123)
                  obtain ⟨G1139, eG1140, hg1141, S1142⟩ := Sep.freeze (O' := [p1110, p1098]) S1134 (.head _) h1138 fr1124 ((all_cons ⟨(.tail _ (.head _)), (ne_of_none h1113 n1118)⟩ (all_cons ⟨(.tail _ (.tail _ (.head _))), (ne_of_none (e1109 _ _ h1104) n1118)⟩ all_nil)))
                  have hw := cW_ok hw
                  exact hK0 _ hw _ _ _ S1142.b0 S1142.g0 S1142.sG S1142.gn (rp_mk2 (eG1140 _ _ hg1137) (.int _) (rp_mk_ints hg1141))
                · have hw := cW_neg c1116 hw
                  obtain ⟨g1143, hw⟩ := cW_grd hw
                  refine ⟨_, rfl, _, _, _, _, rfl, rfl, (SqL.of (S1115.bM _ _ q_raw)), (atI_map g1143), _, rfl, (by show 2 ≤ sizeLine; decide), fun p1144 n1145 => ?_⟩
                  generalize g1146 : upd H1108 p1144 _ = H1147
                  obtain ⟨e1148, h1149⟩ := gen_new n1145 g1146
                  have h1150 : H1147 p1144 = some (.tup [V.int ((itD (raw') (0))), V.ref p1110]) := h1149
                  have fr1151 := S1115.free n1145
                  obtain ⟨G1153, eG1154, hg1155, S1152⟩ := S1115.grow n1145 e1148 h1150 fr1151
                  have h1156 := (e1148 _ _ h1113)
                  obtain ⟨G1157, eG1158, hg1159, S1160⟩ := Sep.freeze (O' := [p1098]) S1152 (.head _) h1156 fr1114 ((all_cons ⟨(.tail _ (.head _)), (ne_of_none h1104 n1111)⟩ all_nil))
                  have hw := cW_ok hw
                  exact hK0 _ hw _ _ _ S1160.b0 S1160.g0 S1160.sG S1160.gn (rp_mk2 (eG1158 _ _ hg1155) (.int _) (rp_mk_ints hg1159))
      · have hw := cW_neg c1024 hw
        refine ⟨_, rfl, ?_⟩
        refine iteT ?_
        refine ⟨(by show 0 ≤ sizeLine; decide), fun p1161 n1162 => ?_⟩
        generalize g1163 : upd H p1161 _ = H1164
        obtain ⟨e1165, h1166⟩ := gen_new n1162 g1163
        have h1167 : H1164 p1161 = some (.lst ((([] : (List Int)) : (List Int)).map V.int)) := h1166
        have fr1168 := S0.free n1162
        have S1169 := S0.new n1162 e1165 h1167 fr1168
        refine ⟨(by show 2 ≤ sizeLine; decide), fun p1170 n1171 => ?_⟩
        generalize g1172 : upd H1164 p1170 _ = H1173
        obtain ⟨e1174, h1175⟩ := gen_new n1171 g1172
        have h1176 : H1173 p1170 = some (.tup [V.int (0), V.ref p1161]) := h1175
        have fr1177 := S1169.free n1171
        obtain ⟨G1179, eG1180, hg1181, S1178⟩ := S1169.grow n1171 e1174 h1176 fr1177
        have h1182 := (e1174 _ _ h1167)
        obtain ⟨G1183, eG1184, hg1185, S1186⟩ := Sep.freeze (O' := []) S1178 (.head _) h1182 fr1168 (all_nil)
        have hw := cW_ok hw
        exact hK0 _ hw _ _ _ S1186.b0 S1186.g0 S1186.sG S1186.gn (rp_mk2 (eG1184 _ _ hg1181) (.int _) (rp_mk_ints hg1185))

abbrev N_read_units : List Str := ["octets", "starts", "ends", "start", "end", "kind", "payload"]
theorem sc_read_units : GScope N_read_units ["octets"] (defScope s_read_units) := ⟨rfl, rfl, rfl, by decide +kernel, rfl, by decide +kernel, by decide +kernel⟩
theorem ok_read_units (D : DefX K mg "read_units" s_read_units ["octets"] pats_read_units) (T : Txt K mg AD) (c__starts : CalX P w K mg base 1 "_starts" (sp__starts K AD) pats__starts) (c__read_raw : CalX P w K mg base 2 "_read_raw" (sp__read_raw K AD) pats__read_raw) : Vy.CalG P w K mg base 3 "read_units" (sg_read_units K AD) pats_read_units := by
  refine Vy.okG D sc_read_units (fun vs H Q E h => ?_) (fun f cdv A_ outer s H vs Q E pn hr0 h => ?_)
  · obtain ⟨G, a_octets, octets', rfl, _⟩ := h
    rfl
  · obtain ⟨G, a_octets, octets', rfl, sG, q_octets, hw⟩ := h
    have hr : RoomG _ _ := ⟨hr0, trivial⟩
    refine ⟨_, (gss_cons (gs_ps (ps_set (i := 1) sc_read_units.nd rfl (Or.inl rfl) (vx_callX c__starts pat__starts_0 (.head _) hr (by decide) takes_gcx rfl (pa_cons (pv 0) pa_nil) pk_nil))) (gss_cons (gs_ps (ps_set (i := 2) sc_read_units.nd rfl (Or.inl rfl) (pe_op op_cat (pe_slice (sl_listK (K := K)) (pv 1) (po_some pe_int) po_none) (pe_lst (pa_cons (pe_callB (call_lenLiK (K := K)) (by rfl) T.b_len (by decide +kernel) (pa_cons (pv 0) pa_nil)) pa_nil))))) (gss_cons (Vy.gs_for owns_gcx rfl (pi_zipK (K := K) rfl T.b_zip (pa_cons (pv 1) (pa_cons (pv 2) pa_nil))) (pg_tupK (K := K) (n := 2) (pgs_cons (pg_name (i := 3) sc_read_units.nd rfl (Or.inl rfl)) (pgs_cons (pg_name (i := 4) sc_read_units.nd rfl (Or.inl rfl)) pgs_nil))) (gss_cons (gs_ps (ps_asg (vx_callX c__read_raw pat__read_raw_0 (.head _) hr (by decide) takes_gcx rfl (pa_cons (pe_slice (sl_listK (K := K)) (pv 0) (po_some (pe_op op_add (pv 3) pe_int)) (po_some (pv 4))) pa_nil) pk_nil) (pg_tupK (K := K) (n := 2) (pgs_cons (pg_name (i := 5) sc_read_units.nd rfl (Or.inl rfl)) (pgs_cons (pg_name (i := 6) sc_read_units.nd rfl (Or.inl rfl)) pgs_nil))))) (gss_cons (gs_yield (pe_tup (pa_cons (pv 3) (pa_cons (pv 5) (pa_cons (pv 6) pa_nil))))) gss_nil))) gss_nil))), ?_⟩
    obtain ⟨KK, EE, hK0, hE, hw⟩ := cW_gen hw
    have S0 := Sep.startG sG
    unfold F_read_units at hw
    refine ⟨_, rfl, rfl, rfl, G, _, _, rfl, S0.sG, (hide_nil (S0.bM _ _ q_octets)), cW_callN hw (fun v1187 hw p1190 H1188 n1191 e1189 h1192 => ?_) trivial⟩
    have h1193 : H1188 p1190 = some (.lst ((v1187 : (List Int)).map V.int)) := h1192
    have fr1194 := S0.free n1191
    have S1195 := S0.new n1191 e1189 h1193 fr1194
    refine ⟨_, rfl, _, rfl, _, _, rfl, (SqL.of h1193), fun p1196 n1197 => ?_⟩
    generalize g1198 : upd H1188 p1196 _ = H1199
    obtain ⟨e1200, h1201⟩ := gen_new n1197 g1198
    have h1202 : H1199 p1196 = some (.lst ((cutL (v1187) (some (1)) none : (List Int)).map V.int)) := cut_map h1201
    have fr1203 := S1195.free n1197
    have S1204 := S1195.new n1197 e1200 h1202 fr1203
    refine ⟨_, rfl, _, _, rfl, (SqL.of (S1204.bM _ _ q_octets)), (by show 1 ≤ sizeLine; decide), fun p1205 n1206 => ?_⟩
    generalize g1207 : upd H1199 p1205 _ = H1208
    obtain ⟨e1209, h1210⟩ := gen_new n1206 g1207
    have h1211 : H1208 p1205 = some (.lst (([(((octets') : (List Int)).length : Int)] : (List Int)).map V.int)) := h1210
    have fr1212 := S1204.free n1206
    have S1213 := S1204.new n1206 e1209 h1211 fr1212
    obtain ⟨g1214, hw⟩ := cW_grd hw
    have h1215 := (e1209 _ _ h1202)
    refine ⟨_, _, _, _, rfl, rfl, h1215, h1211, (cat_lenM g1214), fun p1216 n1217 => ?_⟩
    generalize g1218 : upd H1208 p1216 _ = H1219
    obtain ⟨e1220, h1221⟩ := gen_new n1217 g1218
    have h1222 : H1219 p1216 = some (.lst (((cutL (v1187) (some (1)) none) ++ ([(((octets') : (List Int)).length : Int)]) : (List Int)).map V.int)) := cat_map h1221
    have fr1223 := S1213.free n1217
    have S1224 := S1213.new n1217 e1220 h1222 fr1223
    have h1225 := (e1220 _ _ (e1209 _ _ (e1200 _ _ h1193)))
    obtain ⟨K1227, hK1228, hw⟩ := cW_push hw
    refine ⟨_, rfl, _, rfl, _, _, _, _, rfl, .inl ⟨(SqL.of h1225), (SqL.of h1222), Vy.forG_zipM (K := K) (a := p1190) (b := p1216) (xs := (v1187 : (List Int)).map V.int) (zs := ((cutL (v1187) (some (1)) none) ++ ([(((octets') : (List Int)).length : Int)]) : (List Int)).map V.int) (min ((v1187 : (List Int)).length) (((cutL (v1187) (some (1)) none) ++ ([(((octets') : (List Int)).length : Int)]) : (List Int)).length)) (zipM_n (by rw [List.length_map]) (by rw [List.length_map])) (fun i ys σ H' => ∃ (u1229 : Option V) (u1230 : Option V) (u1231 : Option V) (u1232 : Option V) (out_1233 : (List (Int × Int × (List Int)))) (G' : Hp), σ = [some (V.ref a_octets), some (V.ref p1190), some (V.ref p1216), u1229, u1230, u1231, u1232] ∧ Same G G' ∧ Sep [] H G G' H' [p1190, p1216] ∧ H' p1190 = some (.lst ((v1187 : (List Int)).map V.int)) ∧ H' p1216 = some (.lst (((cutL (v1187) (some (1)) none) ++ ([(((octets') : (List Int)).length : Int)]) : (List Int)).map V.int)) ∧ RpAll G' (ys) ((out_1233 : (List (Int × Int × (List Int)))).map (encT3 PyData.int PyData.int (encL PyData.int))) ∧ cW (forS (List.drop i (List.zip (v1187) ((cutL (v1187) (some (1)) none) ++ ([(((octets') : (List Int)).length : Int)])))) out_1233 (fun s x => F_read_units_b1 (octets') s x)) K1227 EE) ?_ ?_ ?_ ?_⟩⟩
    · exact ⟨_, _, _, _, (([] : (List (Int × Int × (List Int))))), _, rfl, (Same.refl _), (S1224.sub (all_cons (.tail _ (.tail _ (.tail _ (.head _)))) (all_cons (.head _) all_nil))), h1225, h1222, RpAll.nil, hw⟩
    · intro i ys σ H1234 hw
      obtain ⟨u1229, u1230, u1231, u1232, out_1233, G1239, rfl, eG1240, S1235, h1236, h1237, d1238, hw⟩ := hw
      exact ⟨(SqL.of h1236), (SqL.of h1237)⟩
    · intro i x y T1242 ys σ H1241 hj hj2 n1243 hw
      obtain ⟨u1229, u1230, u1231, u1232, out_1233, G1248, rfl, eG1249, S1244, h1245, h1246, d1247, hw⟩ := hw
      obtain ⟨x1250, hx1251, rfl⟩ := map_get hj
      obtain ⟨x1252, hx1253, rfl⟩ := map_get hj2
      generalize g1254 : upd H1241 T1242 _ = H1255
      obtain ⟨e1256, h1257⟩ := gen_new n1243 g1254
      have h1258 : H1255 T1242 = some (.tup [V.int (x1250), V.int (x1252)]) := h1257
      have fr1259 := S1244.free n1243
      obtain ⟨G1261, eG1262, hg1263, S1260⟩ := S1244.grow n1243 e1256 h1258 fr1259
      have hw := cW_forS (zip_get hx1251 hx1253) hw
      have hw : cW (F_read_units_b1 (octets') (out_1233) ((x1250, x1252))) _ EE := hw
      unfold F_read_units_b1 at hw
      obtain ⟨K1265, hK1266, hw⟩ := cW_name hw
      refine ⟨_, _, rfl, (SqT.of (S1260.sG _ _ hg1263)), rfl, _, _, rfl, _, _, rfl, rfl, _, rfl, _, rfl, _, _, rfl, rfl, _, rfl, _, rfl, _, rfl, _, _, rfl, (SqL.of (S1260.bM _ _ q_octets)), fun p1268 n1269 => ?_⟩
      generalize g1270 : upd H1255 p1268 _ = H1271
      obtain ⟨e1272, h1273⟩ := gen_new n1269 g1270
      have h1274 : H1271 p1268 = some (.lst ((cutL (octets') (some ((x1250 + 3))) (some (x1252)) : (List Int)).map V.int)) := cut_map h1273
      have fr1275 := S1260.free n1269
      have S1276 := S1260.new n1269 e1272 h1274 fr1275
      refine ⟨rfl, rfl, G1261, _, _, rfl, S1276.sG, (hide_nil h1274), cW_callN hw (fun v1277 hw v1280 H1278 G1281 e1279 eG1282 sG1283 hn1284 r1285 => ?_) trivial⟩
      have S1286 := S1276.step e1279 eG1282 sG1283 hn1284
      obtain ⟨a1287, v1289, v1290, rfl, h1288, r1291, r1292⟩ := rp_tup2 r1285
      obtain rfl := rp_int r1291
      obtain ⟨a1293, rfl, h1294⟩ := rp_ints r1292
      obtain ⟨g1295, hw⟩ := cW_grd hw
      refine ⟨_, _, rfl, (SqT.of (S1286.sG _ _ h1288)), rfl, _, _, rfl, _, _, rfl, rfl, (app_len (RpAll.mono eG1282 (RpAll.mono eG1262 d1247)) g1295), _, rfl, _, rfl, _, rfl, (by show 3 ≤ sizeLine; decide), fun p1296 n1297 => ?_⟩
      generalize g1298 : upd H1278 p1296 _ = H1299
      obtain ⟨e1300, h1301⟩ := gen_new n1297 g1298
      have h1302 : H1299 p1296 = some (.tup [V.int (x1250), V.int (v1277.1), V.ref a1293]) := h1301
      have fr1303 := S1286.free n1297
      obtain ⟨G1305, eG1306, hg1307, S1304⟩ := S1286.grow n1297 e1300 h1302 fr1303
      have d1308 : RpAll G1305 (ys ++ [V.ref p1296]) ((((out_1233) ++ [(x1250, v1277.1, v1277.2)]) : (List (Int × Int × (List Int)))).map (encT3 PyData.int PyData.int (encL PyData.int))) := app_map (RpAll.mono eG1306 (RpAll.mono eG1282 (RpAll.mono eG1262 d1247))) (RpAll.one (rp_mk3 hg1307 (.int _) (.int _) (rp_mk_ints (eG1306 _ _ h1294))))
      have hw := cW_ok hw
      have hw := hK1266 _ hw
      have h1309 := (e1300 _ _ (e1279 _ _ (e1272 _ _ (e1256 _ _ h1245))))
      have h1310 := (e1300 _ _ (e1279 _ _ (e1272 _ _ (e1256 _ _ h1246))))
      exact ⟨_, _, _, _, (((out_1233) ++ [(x1250, v1277.1, v1277.2)])), _, rfl, (Same.trans (Same.trans (Same.trans eG1249 eG1262) eG1282) eG1306), (S1304.sub (all_cons (.tail _ (.head _)) (all_cons (.tail _ (.tail _ (.head _))) all_nil))), h1309, h1310, d1308, hw⟩
    · intro ys σ H1311 hw
      obtain ⟨u1229, u1230, u1231, u1232, out_1233, G1316, rfl, eG1317, S1312, h1313, h1314, d1315, hw⟩ := hw
      have hw := hK1228 _ (cW_forS0 zipM_len hw)
      have hw : cW (F_read_units_r1  (out_1233)) _ EE := hw
      unfold F_read_units_r1 at hw
      have hw := cW_ok hw
      exact hK0 _ hw _ _ _ S1312.b0 S1312.g0 S1312.sG S1312.gn d1315

abbrev N__law_large : List Str := ["cell", "most", "octets", "back"]
theorem sc__law_large : FnScope N__law_large ["cell"] (defScope s__law_large) := ⟨rfl, rfl, rfl, by decide +kernel, rfl, by decide +kernel, by decide +kernel⟩
theorem ok__law_large (D : DefX K mg "_law_large" s__law_large ["cell"] pats__law_large) (T : Txt K mg AD) (c_write_unit : CalX P w K mg base 2 "write_unit" (sp_write_unit K AD) pats_write_unit) (c_read_units : Vy.CalG P w K mg base 3 "read_units" (sg_read_units K AD) pats_read_units) (c__law_refused : CalX P w K mg base 4 "_law_refused" (sp__law_refused K AD) pats__law_refused) : CalX P w K mg base 7 "_law_large" (sp__law_large K AD) pats__law_large := by
  refine D.ok sc__law_large (fun vs H Q E h => ?_) (fun f cdv A_ outer s H vs Q E hr h => ?_)
  · obtain ⟨G, cell', rfl, _⟩ := h
    rfl
  · obtain ⟨G, cell', rfl, sG, hw⟩ := h
    refine ⟨_, (pss_cons (ps_if (pt_cmp (pc_neI (pe_op op_mod (pe_callTy call_int1 (by rfl) T.b_int (by decide +kernel) (pa_cons (pv 0) pa_nil)) pe_int) pe_int)) (pss_one (ps_ret pe_bl)) pss_nil)
      (pss_cons (ps_set (i := 1) sc__law_large.nd rfl (Or.inl rfl) (pe_op op_rep (pe_lst (pa_cons pe_int pa_nil)) pe_int))
      (pss_cons (ps_set (i := 2) sc__law_large.nd rfl (Or.inl rfl) (vx_callX c_write_unit pat_write_unit_0 (.head _) hr (by decide) (takes_of rfl rfl rfl rfl) rfl (pa_cons pe_int (pa_cons (pv 1) pa_nil)) pk_nil))
      (pss_cons (ps_set (i := 3) sc__law_large.nd rfl (Or.inl rfl) (Vy.vx_lg c_read_units im_read_units pat_read_units_0 (.head _) hr (by decide) (takes_of rfl rfl rfl rfl) rfl rfl T.b_list (pa_cons (pv 2) pa_nil) pk_nil))
      (pss_cons (ps_if (PW.pt (pw_or (pt_cmp (pc_neI (pe_callB (call_lenLK (K := K)) (by rfl) T.b_len (by decide +kernel) (pa_cons (pv 3) pa_nil)) pe_int)) (pw_or1 (pt_cmpR (op_neT (encOk_T3 encOk_int encOk_int (encOk_L encOk_int)) hr.units) (pe_ix (ix_listK (K := K)) (pv 3) pe_int (fun _ _ => rfl)) (pe_tup (pa_cons pe_int (pa_cons pe_int (pa_cons (pv 1) pa_nil)))) (nomark _))))) (pss_one (ps_ret pe_bl)) pss_nil)
      (pss_one (ps_ret (vx_callX c__law_refused pat__law_refused_0 (.head _) hr (by decide) (takes_of rfl rfl rfl rfl) rfl (pa_cons pe_int (pa_cons (pe_op op_cat (pv 1) (pe_lst (pa_cons pe_int pa_nil))) (pa_cons (pe_lst pa_nil) pa_nil))) pk_nil)))))))), ?_⟩
    obtain ⟨KK, EE, hK0, hE, hw⟩ := cW_gen hw
    have S0 := Sep.startG sG
    unfold F__law_large at hw
    refine ⟨_, rfl, .inl ⟨_, rfl, ?_⟩⟩
    refine ⟨_, _, rfl, rfl, (show (0 : Int) < 32 by decide), _, _, rfl, rfl, _, rfl, ?_⟩
    refine iteN (fun c1319 => ?_) (fun c1319 => ?_)
    · have hw := cW_neg c1319 hw
      have hw := cW_ok hw
      exact hK0 _ hw _ S0.b0
    · have hw := cW_pos c1319 hw
      refine ⟨(by show 1 ≤ sizeLine; decide), fun p1320 n1321 => ?_⟩
      generalize g1322 : upd H p1320 _ = H1323
      obtain ⟨e1324, h1325⟩ := gen_new n1321 g1322
      have h1326 : H1323 p1320 = some (.lst (([0] : (List Int)).map V.int)) := h1325
      have fr1327 := S0.free n1321
      have S1328 := S0.new n1321 e1324 h1326 fr1327
      obtain ⟨g1329, hw⟩ := cW_grd hw
      refine ⟨_, _, _, rfl, rfl, h1326, g1329.1, g1329.2.1, (rep_lenM g1329.2.2), fun p1330 n1331 => ?_⟩
      generalize g1332 : upd H1323 p1330 _ = H1333
      obtain ⟨e1334, h1335⟩ := gen_new n1331 g1332
      have h1336 : H1333 p1330 = some (.lst ((repL ([0]) (65536) : (List Int)).map V.int)) := rep_map h1335
      have fr1337 := S1328.free n1331
      have S1338 := S1328.new n1331 e1334 h1336 fr1337
      refine ⟨_, rfl, rfl, rfl, G, _, _, _, rfl, S1338.sG, (hide_nil h1336), cW_call hw (fun v1339 hw p1342 H1340 n1343 e1341 h1344 => ?_) (fun e he H2 e2 => hE e he H2 (Same.trans S1338.b0 e2))⟩
      have h1345 : H1340 p1342 = some (.lst ((v1339 : (List Int)).map V.int)) := h1344
      have fr1346 := S1338.free n1343
      have S1347 := S1338.new n1343 e1341 h1345 fr1346
      refine ⟨_, rfl, rfl, rfl, G, _, _, rfl, S1347.sG, (hide_nil h1345), cW_callN hw (fun v1348 hw p1351 vs1352 H1349 G1353 n1354 e1350 eG1355 sG1356 hn1357 gp1358 h1359 d1360 => ?_) trivial⟩
      have fr1362 := S1347.free n1354
      have S1361 := S1347.stepnew e1350 eG1355 sG1356 hn1357 n1354 h1359 gp1358 fr1362
      refine ⟨_, rfl, _, _, _, rfl, (SqL.of h1359), (by rw [d1360.len, List.length_map]), _, _, rfl, rfl, _, rfl, ?_⟩
      refine iteN (fun c1363 => ?_) (fun c1363 => ?_)
      · have hw := cW_neg c1363 hw
        refine iteT ?_
        have hw := cW_ok hw
        exact hK0 _ hw _ S1361.b0
      · have hw := cW_pos c1363 hw
        obtain ⟨g1364, hw⟩ := cW_grd hw
        obtain ⟨v1365, a1366, r1367⟩ := RpAll.ixD (k := 0) d1360 g1364
        obtain ⟨a1368, v1370, v1371, v1372, rfl, h1369, r1373, r1374, r1375⟩ := rp_tup3 r1367
        obtain rfl := rp_int r1373
        obtain rfl := rp_int r1374
        obtain ⟨a1376, rfl, h1377⟩ := rp_ints r1375
        refine ⟨_, rfl, _, _, _, _, rfl, rfl, (SqL.of h1359), a1366, _, rfl, (by show 3 ≤ sizeLine; decide), fun p1378 n1379 => ?_⟩
        generalize g1380 : upd H1349 p1378 _ = H1381
        obtain ⟨e1382, h1383⟩ := gen_new n1379 g1380
        have h1384 : H1381 p1378 = some (.tup [V.int (0), V.int (7), V.ref p1330]) := h1383
        have fr1385 := S1361.free n1379
        obtain ⟨G1387, eG1388, hg1389, S1386⟩ := S1361.grow n1379 e1382 h1384 fr1385
        have h1390 := (e1382 _ _ (e1350 _ _ (e1341 _ _ h1336)))
        refine ⟨_, _, (rp_mk3 (S1386.sG _ _ (eG1388 _ _ h1369)) (.int _) (.int _) (rp_mk_ints (S1386.sG _ _ (eG1388 _ _ h1377)))), (rp_mk3 (S1386.sG _ _ hg1389) (.int _) (.int _) (rp_mk_ints h1390)), _, rfl, ?_⟩
        refine iteN (fun c1391 => ?_) (fun c1391 => ?_)
        · have hw := cW_neg c1391 hw
          have hw := cW_ok hw
          exact hK0 _ hw _ S1386.b0
        · have hw := cW_pos c1391 hw
          refine ⟨_, rfl, (by show 1 ≤ sizeLine; decide), fun p1392 n1393 => ?_⟩
          generalize g1394 : upd H1381 p1392 _ = H1395
          obtain ⟨e1396, h1397⟩ := gen_new n1393 g1394
          have h1398 : H1395 p1392 = some (.lst (([0] : (List Int)).map V.int)) := h1397
          have fr1399 := S1386.free n1393
          have S1400 := S1386.new n1393 e1396 h1398 fr1399
          obtain ⟨g1401, hw⟩ := cW_grd hw
          have h1402 := (e1396 _ _ h1390)
          refine ⟨_, _, _, _, rfl, rfl, h1402, h1398, (cat_lenM g1401), fun p1403 n1404 => ?_⟩
          generalize g1405 : upd H1395 p1403 _ = H1406
          obtain ⟨e1407, h1408⟩ := gen_new n1404 g1405
          have h1409 : H1406 p1403 = some (.lst (((repL ([0]) (65536)) ++ ([0]) : (List Int)).map V.int)) := cat_map h1408
          have fr1410 := S1400.free n1404
          have S1411 := S1400.new n1404 e1407 h1409 fr1410
          refine ⟨(by show 0 ≤ sizeLine; decide), fun p1412 n1413 => ?_⟩
          generalize g1414 : upd H1406 p1412 _ = H1415
          obtain ⟨e1416, h1417⟩ := gen_new n1413 g1414
          have h1418 : H1415 p1412 = some (.lst ([])) := h1417
          have fr1419 := S1411.free n1413
          have S1420 := S1411.new n1413 e1416 h1418 fr1419
          have d1421 : RpAll G1387 ([]) ((([] : (List (Int × (List Int)))) : (List (Int × (List Int)))).map (encT2 PyData.int (encL PyData.int))) := RpAll.nil
          have h1422 := (e1416 _ _ h1409)
          obtain ⟨G1423, eG1424, hg1425, S1426⟩ := Sep.freeze (O' := [p1412, p1392, p1351, p1342, p1330, p1320]) S1420 (.tail _ (.head _)) h1422 fr1410 ((all_cons ⟨(.head _), (ne_of_none h1409 n1413).symm⟩ (all_cons ⟨(.tail _ (.tail _ (.head _))), (ne_of_none h1398 n1404)⟩ (all_cons ⟨(.tail _ (.tail _ (.tail _ (.head _)))), (ne_of_none (e1396 _ _ (e1382 _ _ h1359)) n1404)⟩ (all_cons ⟨(.tail _ (.tail _ (.tail _ (.tail _ (.head _))))), (ne_of_none (e1396 _ _ (e1382 _ _ (e1350 _ _ h1345))) n1404)⟩ (all_cons ⟨(.tail _ (.tail _ (.tail _ (.tail _ (.tail _ (.head _)))))), (ne_of_none h1402 n1404)⟩ (all_cons ⟨(.tail _ (.tail _ (.tail _ (.tail _ (.tail _ (.tail _ (.head _))))))), (ne_of_none (e1396 _ _ (e1382 _ _ (e1350 _ _ (e1341 _ _ (e1334 _ _ h1326))))) n1404)⟩ all_nil)))))))
          obtain ⟨G1427, eG1428, hg1429, S1430⟩ := Sep.freeze (O' := [p1392, p1351, p1342, p1330, p1320]) S1426 (.head _) h1418 fr1419 ((all_cons ⟨(.tail _ (.head _)), (ne_of_none (e1407 _ _ h1398) n1413)⟩ (all_cons ⟨(.tail _ (.tail _ (.head _))), (ne_of_none (e1407 _ _ (e1396 _ _ (e1382 _ _ h1359))) n1413)⟩ (all_cons ⟨(.tail _ (.tail _ (.tail _ (.head _)))), (ne_of_none (e1407 _ _ (e1396 _ _ (e1382 _ _ (e1350 _ _ h1345)))) n1413)⟩ (all_cons ⟨(.tail _ (.tail _ (.tail _ (.tail _ (.head _))))), (ne_of_none (e1407 _ _ h1402) n1413)⟩ (all_cons ⟨(.tail _ (.tail _ (.tail _ (.tail _ (.tail _ (.head _)))))), (ne_of_none (e1407 _ _ (e1396 _ _ (e1382 _ _ (e1350 _ _ (e1341 _ _ (e1334 _ _ h1326)))))) n1413)⟩ all_nil))))))
          refine ⟨rfl, rfl, G1427, _, _, _, _, _, rfl, S1430.sG, (eG1428 _ _ hg1425), (rp_mk_list hg1429 (RpAll.mono eG1428 (RpAll.mono eG1424 d1421))), cW_call hw (fun v1431 hw H1432 e1433 => ?_) (fun e he H2 e2 => hE e he H2 (Same.trans S1430.b0 e2))⟩
          have S1434 := S1430.same e1433
          have hw := cW_ok hw
          exact hK0 _ hw _ S1434.b0

abbrev N__law_escape : List Str := ["octets", "found", "zeros", "octet"]
theorem sc__law_escape : FnScope N__law_escape ["octets"] (defScope s__law_escape) := ⟨rfl, rfl, rfl, by decide +kernel, rfl, by decide +kernel, by decide +kernel⟩
theorem ok__law_escape (D : DefX K mg "_law_escape" s__law_escape ["octets"] pats__law_escape) (T : Txt K mg AD)  : CalX P w K mg base 1 "_law_escape" (sp__law_escape K AD) pats__law_escape := by
  refine D.ok sc__law_escape (fun vs H Q E h => ?_) (fun f cdv A_ outer s H vs Q E hr h => ?_)
  · obtain ⟨G, a_octets, octets', rfl, _⟩ := h
    rfl
  · obtain ⟨G, a_octets, octets', rfl, sG, q_octets, hw⟩ := h
    refine ⟨_, (pss_cons (ps_set (i := 1) sc__law_escape.nd rfl (Or.inl rfl) (pe_lst pa_nil))
      (pss_cons (ps_set (i := 2) sc__law_escape.nd rfl (Or.inl rfl) pe_int)
      (pss_cons (ps_for (passes_of rfl) rfl (pi_listK (K := K) (pv 0)) (pg_name (i := 3) sc__law_escape.nd rfl (Or.inl rfl)) (C8.pss_cut (ps_if (PW.pt (pw_and (pt_cmp (pc_ge (pv 2) pe_int)) (pw_and1 (pt_cmp (pc_le (pv 3) pe_int))))) (pss_cons (ps_expr (pe_bm PySem.F.plainAttrs_list PySem.F.slot_list_append PySem.F.type_list_append mt_append (pv 1) (pa_cons pe_int pa_nil)))
      (pss_one (ps_set (i := 2) sc__law_escape.nd rfl (Or.inl rfl) pe_int))) pss_nil)
      (pss_cons (ps_expr (pe_bm PySem.F.plainAttrs_list PySem.F.slot_list_append PySem.F.type_list_append mt_append (pv 1) (pa_cons (pv 3) pa_nil)))
      (pss_one (ps_set (i := 2) sc__law_escape.nd rfl (Or.inl rfl) (pe_op op_mul (pe_op op_add (pv 2) pe_int) (pe_callTy call_int1 (by rfl) T.b_int (by decide +kernel) (pa_cons (pe_cmp (pc_eqI (pv 3) pe_int)) pa_nil))))))))
      (pss_one (ps_ret (pv 1)))))), ?_⟩
    obtain ⟨KK, EE, hK0, hE, hw⟩ := cW_gen hw
    have S0 := Sep.startG sG
    unfold F__law_escape at hw
    refine ⟨(by show 0 ≤ sizeLine; decide), fun p1435 n1436 => ?_⟩
    generalize g1437 : upd H p1435 _ = H1438
    obtain ⟨e1439, h1440⟩ := gen_new n1436 g1437
    have h1441 : H1438 p1435 = some (.lst ((([] : (List Int)) : (List Int)).map V.int)) := h1440
    have fr1442 := S0.free n1436
    have S1443 := S0.new n1436 e1439 h1441 fr1442
    obtain ⟨K1444, hK1445, hw⟩ := cW_push hw
    refine ⟨_, rfl, _, rfl, ⟨_, (SqL.of (S1443.bM _ _ q_octets))⟩, for_list (K := K) (a := a_octets) (xs := (octets' : List Int).map V.int) (fun i σ H' => ∃ (found_1446 : (List Int)) (zeros_1447 : Int) (u1448 : Option V) (G' : Hp), σ = [some (V.ref a_octets), some (V.ref p1435), some (V.int zeros_1447), u1448] ∧ Same G G' ∧ Sep [] H G G' H' [p1435] ∧ H' p1435 = some (.lst ((found_1446 : (List Int)).map V.int)) ∧ cW (forS (List.drop i (octets')) (found_1446, zeros_1447) (fun s x => F__law_escape_b1  (s.1) (s.2) x)) K1444 EE) ?_ ?_ ?_ ?_⟩
    · exact ⟨(([] : (List Int))), (0), _, _, rfl, (Same.refl _), S1443, h1441, hw⟩
    · intro i σ H1449 _ hw
      obtain ⟨found_1446, zeros_1447, u1448, G1452, rfl, eG1453, S1450, h1451, hw⟩ := hw
      exact (SqL.of (S1450.bM _ _ q_octets))
    · intro i x σ H1454 hj hw
      obtain ⟨found_1446, zeros_1447, u1448, G1457, rfl, eG1458, S1455, h1456, hw⟩ := hw
      obtain ⟨x1459, hx, rfl⟩ := map_get hj
      have hw := cW_forS hx hw
      have hw : cW (F__law_escape_b1  (found_1446) (zeros_1447) (x1459)) _ EE := hw
      unfold F__law_escape_b1 at hw
      obtain ⟨K1462, hK1463, hw⟩ := cW_name hw
      refine ⟨fun σ H' => ∃ (found_1468 : (List Int)) (zeros_1469 : Int) (G' : Hp), σ = [some (V.ref a_octets), some (V.ref p1435), some (V.int zeros_1469), some (V.int (x1459))] ∧ Same G1457 G' ∧ Sep [] H G G' H' [p1435] ∧ H' p1435 = some (.lst ((found_1468 : (List Int)).map V.int)) ∧ cW (F__law_escape_k2 (x1459) found_1468 zeros_1469) K1462 EE, ?_, ?_⟩
      · obtain ⟨K1470, hK1471, hw⟩ := cW_push hw
        refine ⟨_, rfl, _, _, rfl, rfl, _, rfl, ?_⟩
        refine iteD (fun c1472 => ?_) (fun c1472 => ?_)
        · have hw := cW_pos c1472 hw
          refine ⟨_, rfl, _, _, rfl, rfl, _, rfl, ?_⟩
          refine iteD (fun c1473 => ?_) (fun c1473 => ?_)
          · have hw := cW_pos c1473 hw
            obtain ⟨g1474, hw⟩ := cW_grd hw
            refine ⟨_, rfl, (.inl ⟨rfl, _, SqL.of h1456⟩), _, _, _, rfl, rfl, h1456, (app_lenM g1474), ?_⟩
            generalize g1475 : upd H1454 p1435 _ = H1476
            obtain ⟨x1477, h1478⟩ := gen_mut g1475
            have h1479 : H1476 p1435 = some (.lst (((found_1446) ++ [3] : (List Int)).map V.int)) := snoc_map h1478
            have S1480 := S1455.mut1 x1477 (.head _) h1479
            have hw := cW_bnd hw
            have hw := cW_ok hw
            have hw := hK1471 _ hw
            exact ⟨((found_1446) ++ [3]), (0), _, rfl, (Same.refl _), S1480, h1479, hw⟩
          · have hw := cW_neg c1473 hw
            have hw := cW_ok hw
            have hw := hK1471 _ hw
            exact ⟨(found_1446), (zeros_1447), _, rfl, (Same.refl _), S1455, h1456, hw⟩
        · have hw := cW_neg c1472 hw
          refine iteF ?_
          have hw := cW_ok hw
          have hw := hK1471 _ hw
          exact ⟨(found_1446), (zeros_1447), _, rfl, (Same.refl _), S1455, h1456, hw⟩
      · intro σ H1482 hw
        obtain ⟨found_1468, zeros_1469, G1485, rfl, eG1486, S1483, h1484, hw⟩ := hw
        unfold F__law_escape_k2 at hw
        obtain ⟨g1487, hw⟩ := cW_grd hw
        refine ⟨_, rfl, (.inl ⟨rfl, _, SqL.of h1484⟩), _, rfl, _, _, _, rfl, rfl, h1484, (app_lenM g1487), ?_⟩
        generalize g1488 : upd H1482 p1435 _ = H1489
        obtain ⟨x1490, h1491⟩ := gen_mut g1488
        have h1492 : H1489 p1435 = some (.lst (((found_1468) ++ [x1459] : (List Int)).map V.int)) := snoc_map h1491
        have S1493 := S1483.mut1 x1490 (.head _) h1492
        have hw := cW_bnd hw
        refine ⟨_, rfl, _, _, rfl, rfl, _, rfl, _, _, rfl, rfl, .inr ⟨_, rfl, ?_⟩⟩
        obtain ⟨g1495, hw⟩ := cW_grd hw
        refine ⟨_, _, rfl, rfl, g1495, ?_⟩
        have hw := cW_bnd hw
        have hw := cW_ok hw
        have hw := hK1463 _ hw
        exact ⟨((found_1468) ++ [x1459]), (((zeros_1469 + 1) * (if decide ((x1459 : Int) = 0) = true then 1 else 0))), _, _, rfl, (Same.trans eG1458 eG1486), S1493, h1492, hw⟩
    · intro σ H1497 hw
      obtain ⟨found_1446, zeros_1447, u1448, G1500, rfl, eG1501, S1498, h1499, hw⟩ := hw
      have hw := hK1445 _ (cW_forS0 (by rw [List.length_map]) hw)
      have hw : cW (F__law_escape_r1  (found_1446) (zeros_1447)) _ EE := hw
      unfold F__law_escape_r1 at hw
      refine ⟨_, rfl, ?_⟩
      have hw := cW_ok hw
      exact hK0 _ hw _ _ fr1442 S1498.b0 h1499

abbrev N_law : List Str := ["script", "units", "due", "told", "unit", "kept", "octets", "first", "kind"]
theorem sc_law : FnScope N_law ["script"] (defScope s_law) := ⟨rfl, rfl, rfl, by decide +kernel, rfl, by decide +kernel, by decide +kernel⟩
theorem ok_law {f : Addr} {fd : FuncData} (F : FunD K "law" "law" (defArgs s_law) (defBody s_law) (defScope s_law) [] [] f fd) (T : Txt K mg AD) (c__law_units : CalX P w K mg base 3 "_law_units" (sp__law_units K AD) pats__law_units) (c__law_escape : CalX P w K mg base 1 "_law_escape" (sp__law_escape K AD) pats__law_escape) (c_write_units : CalX P w K mg base 3 "write_units" (sp_write_units K AD) pats_write_units) (c_read_units : Vy.CalG P w K mg base 3 "read_units" (sg_read_units K AD) pats_read_units) (c_write_unit : CalX P w K mg base 2 "write_unit" (sp_write_unit K AD) pats_write_unit) (c__law_draws : CalX P w K mg base 1 "_law_draws" (sp__law_draws K AD) pats__law_draws) (c__law_cell : CalX P w K mg base 1 "_law_cell" (sp__law_cell K AD) pats__law_cell) (c__law_large : CalX P w K mg base 7 "_law_large" (sp__law_large K AD) pats__law_large) (c__law_refused : CalX P w K mg base 4 "_law_refused" (sp__law_refused K AD) pats__law_refused) (c__law_some : CalX P w K mg base 2 "_law_some" (sp__law_some K AD) pats__law_some) : FnG P w K mg base CX0 8 f fd ["script"] (sp_law K AD) := by
  refine FnG.bodyN F sc_law (fun vs H Q E h => ?_) (fun cdv A_ outer s H vs Q E hr h => ?_)
  · obtain ⟨a_script, script, rfl, _⟩ := h
    rfl
  · obtain ⟨a_script, script', rfl, q_script, hw, k⟩ := h
    refine ⟨_, (pss_cons (ps_set (i := 1) sc_law.nd rfl (Or.inl rfl) (vx_callX c__law_units pat__law_units_0 (.head _) hr (by decide) takes0 rfl (pa_cons (pv 0) pa_nil) pk_nil))
      (pss_cons (ps_set (i := 2) sc_law.nd rfl (Or.inl rfl) (pe_lst pa_nil))
      (pss_cons (ps_set (i := 3) sc_law.nd rfl (Or.inl rfl) (pe_lst pa_nil))
      (pss_cons (ps_for PassesOwn.never rfl (pi_listK (K := K) (pv 1)) (pg_name (i := 4) sc_law.nd rfl (Or.inl rfl)) (pss_cons (ps_expr (pe_bm PySem.F.plainAttrs_list PySem.F.slot_list_append PySem.F.type_list_append mt_append (pv 3) (pa_cons (pe_tup (pa_cons (pe_callB (call_lenLiK (K := K)) (by rfl) T.b_len (by decide +kernel) (pa_cons (pv 2) pa_nil)) (pa_cons (pe_ix (ix_tupK (K := K)) (pv 4) pe_int (fun _ _ => rfl)) (pa_cons (pe_callTy (call_listLK (K := K)) (by rfl) T.b_list (by decide +kernel) (pa_cons (pe_ix (ix_tupK (K := K)) (pv 4) pe_int (fun _ _ => rfl)) pa_nil)) pa_nil)))) pa_nil)))
      (pss_one (ps_set (i := 2) sc_law.nd rfl (Or.inl rfl) (pe_op op_cat (pe_op op_cat (pv 2) (pe_lst (pa_cons pe_int (pa_cons pe_int (pa_cons pe_int (pa_cons (pe_ix (ix_tupK (K := K)) (pv 4) pe_int (fun _ _ => rfl)) pa_nil)))))) (vx_callX c__law_escape pat__law_escape_0 (.head _) hr (by decide) takes0 rfl (pa_cons (pe_op op_cat (pe_ix (ix_tupK (K := K)) (pv 4) pe_int (fun _ _ => rfl)) (pe_lst (pa_cons pe_int pa_nil))) pa_nil) pk_nil))))))
      (pss_cons (ps_setLc (i := 5) (y := "kept") rfl sc_law.nd rfl rfl (sw_true rfl rfl rfl (by decide +kernel)) (own := [("unit", 4)]) (g := gName 4) (pi_listK (K := K) (pv 1)) (blkOk_by (own := [("unit", 4)]) (N := N_law) (sc := defScope s_law) (by decide +kernel)) (fun _ _ _ _ _ => (pg_name (i := 4) sc_law.nd rfl (Or.inl rfl))) (fun _ _ _ _ _ => pts_nil) (fun _ _ _ _ _ => (pe_tup (pa_cons (pe_ix (ix_tupK (K := K)) (pv 4) pe_int (fun _ _ => rfl)) (pa_cons (pe_callTy (call_listLK (K := K)) (by rfl) T.b_list (by decide +kernel) (pa_cons (pe_ix (ix_tupK (K := K)) (pv 4) pe_int (fun _ _ => rfl)) pa_nil)) pa_nil)))))
      (pss_cons (ps_set (i := 6) sc_law.nd rfl (Or.inl rfl) (vx_callX c_write_units pat_write_units_0 (.head _) hr (by decide) takes0 rfl (pa_cons (pv 1) pa_nil) pk_nil))
      (pss_cons (ps_if (PW.pt (pw_or (pt_not (pt_val (pe_callB call_isi (by rfl) T.b_isinstance (by decide +kernel) (pa_cons (pv 6) (pa_cons (pe_bltn (v := V.ty "list") (u := Value.type "list") (by rfl) T.b_list (by decide +kernel) rfl) pa_nil))))) (pw_or (pt_cmpR (op_neT (encOk_L encOk_int) hr.units) (pv 6) (pv 2) (nomark _)) (pw_or1 (pt_cmpR (op_neT (encOk_L (encOk_T2 encOk_int (encOk_L encOk_int))) hr.units) (pv 1) (pv 5) (nomark _)))))) (pss_one (ps_ret pe_bl)) pss_nil)
      (pss_cons (ps_if (PW.pt (pw_or (pt_cmpR (op_neT (encOk_L (encOk_T3 encOk_int encOk_int (encOk_L encOk_int))) hr.units) (Vy.vx_lg c_read_units im_read_units pat_read_units_0 (.head _) hr (by decide) takes0 rfl rfl T.b_list (pa_cons (pv 6) pa_nil) pk_nil) (pv 3) (nomark _)) (pw_or1 (pt_cmpR (op_neT (encOk_L encOk_int) hr.units) (pv 6) (pv 2) (nomark _))))) (pss_one (ps_ret pe_bl)) pss_nil)
      (pss_cons (ps_for PassesOwn.never rfl (pi_listK (K := K) (pe_slice (sl_listK (K := K)) (pv 1) po_none (po_some pe_int))) (pg_name (i := 4) sc_law.nd rfl (Or.inl rfl)) (pss_one (ps_if (pt_cmpR (op_neT (encOk_L encOk_int) hr.units) (vx_callX c_write_unit pat_write_unit_0 (.head _) hr (by decide) takes0 rfl (pa_cons (pe_ix (ix_tupK (K := K)) (pv 4) pe_int (fun _ _ => rfl)) (pa_cons (pe_ix (ix_tupK (K := K)) (pv 4) pe_int (fun _ _ => rfl)) pa_nil)) pk_nil) (pe_op op_cat (pe_lst (pa_cons pe_int (pa_cons pe_int (pa_cons pe_int (pa_cons (pe_ix (ix_tupK (K := K)) (pv 4) pe_int (fun _ _ => rfl)) pa_nil))))) (vx_callX c__law_escape pat__law_escape_0 (.head _) hr (by decide) takes0 rfl (pa_cons (pe_op op_cat (pe_ix (ix_tupK (K := K)) (pv 4) pe_int (fun _ _ => rfl)) (pe_lst (pa_cons pe_int pa_nil))) pa_nil) pk_nil)) (nomark _)) (pss_one (ps_ret pe_bl)) pss_nil)))
      (pss_cons (ps_set (i := 7) sc_law.nd rfl (Or.inl rfl) (vx_callX c__law_draws pat__law_draws_0 (.head _) hr (by decide) takes0 rfl (pa_cons (vx_callX c__law_cell pat__law_cell_0 (.head _) hr (by decide) takes0 rfl (pa_cons (pv 0) (pa_cons pe_int pa_nil)) pk_nil) (pa_cons (pe_lst (pa_cons pe_int (pa_cons pe_int pa_nil))) pa_nil)) pk_nil))
      (pss_cons (ps_set (i := 8) sc_law.nd rfl (Or.inl rfl) (pe_ix (ix_listK (K := K)) (pe_lst (pa_cons pe_int (pa_cons pe_int (pa_cons (pe_un un_neg (pe_ix (ix_listK (K := K)) (pv 7) pe_int (fun _ _ => rfl))) (pa_cons (pe_op op_add pe_int (pe_ix (ix_listK (K := K)) (pv 7) pe_int (fun _ _ => rfl))) pa_nil))))) (pe_ix (ix_listK (K := K)) (pv 7) pe_int (fun _ _ => rfl)) (fun _ _ => rfl)))
      (pss_one (ps_ret (pe_and (vx_callX c__law_refused pat__law_refused_0 (.head _) hr (by decide) takes0 rfl (pa_cons (pv 8) (pa_cons (vx_callX c__law_some pat__law_some_0 (.head _) hr (by decide) takes0 rfl (pa_cons (vx_callX c__law_cell pat__law_cell_0 (.head _) hr (by decide) takes0 rfl (pa_cons (pv 0) (pa_cons pe_int pa_nil)) pk_nil) (pa_cons pe_int pa_nil)) pk_nil) (pa_cons (pe_slice (sl_listK (K := K)) (pv 1) po_none (po_some pe_int)) pa_nil))) pk_nil) (pe_one (vx_callX c__law_large pat__law_large_0 (.head _) hr (by decide) takes0 rfl (pa_cons (vx_callX c__law_cell pat__law_cell_0 (.head _) hr (by decide) takes0 rfl (pa_cons (pv 0) (pa_cons pe_int pa_nil)) pk_nil) pa_nil) pk_nil)))))))))))))))), ?_⟩
    obtain ⟨KK, EE, hK0, hE, hw⟩ := cW_gen hw
    have S0 := Sep.start0 H
    unfold F_law at hw
    refine ⟨_, rfl, rfl, rfl, H, _, _, rfl, S0.sG, (S0.b0.seq q_script), cW_call hw (fun v1504 hw p1507 vs1508 H1505 G1509 n1510 e1506 eG1511 sG1512 hn1513 gp1514 h1515 d1516 => ?_) (fun e he => (hE e he).elim)⟩
    have fr1518 := S0.free n1510
    have S1517 := S0.stepnew e1506 eG1511 sG1512 hn1513 n1510 h1515 gp1514 fr1518
    refine ⟨(by show 0 ≤ sizeLine; decide), fun p1519 n1520 => ?_⟩
    generalize g1521 : upd H1505 p1519 _ = H1522
    obtain ⟨e1523, h1524⟩ := gen_new n1520 g1521
    have h1525 : H1522 p1519 = some (.lst ((([] : (List Int)) : (List Int)).map V.int)) := h1524
    have fr1526 := S1517.free n1520
    have S1527 := S1517.new n1520 e1523 h1525 fr1526
    refine ⟨(by show 0 ≤ sizeLine; decide), fun p1528 n1529 => ?_⟩
    generalize g1530 : upd H1522 p1528 _ = H1531
    obtain ⟨e1532, h1533⟩ := gen_new n1529 g1530
    have h1534 : H1531 p1528 = some (.lst ([])) := h1533
    have fr1535 := S1527.free n1529
    have S1536 := S1527.new n1529 e1532 h1534 fr1535
    have d1537 : RpAll G1509 ([]) ((([] : (List (Int × Int × (List Int)))) : (List (Int × Int × (List Int)))).map (encT3 PyData.int PyData.int (encL PyData.int))) := RpAll.nil
    have h1538 := (e1532 _ _ (e1523 _ _ h1515))
    obtain ⟨K1541, hK1542, hw⟩ := cW_push hw
    refine ⟨_, rfl, _, rfl, ⟨_, (SqL.of h1538)⟩, for_list (K := K) (a := p1507) (xs := vs1508) (fun i σ H' => ∃ (p1544 : Addr) (due_1543 : (List Int)) (told_1545 : (List (Int × Int × (List Int)))) (vs1546 : List V) (u1547 : Option V) (G' : Hp), σ = [some (V.ref a_script), some (V.ref p1507), some (V.ref p1544), some (V.ref p1528), u1547, none, none, none, none] ∧ Same G1509 G' ∧ Sep [] H H G' H' [p1507, p1544, p1528] ∧ H' p1507 = some (.lst (vs1508)) ∧ H' p1544 = some (.lst ((due_1543 : (List Int)).map V.int)) ∧ H' p1528 = some (.lst (vs1546)) ∧ H p1544 = none ∧ p1544 ≠ p1507 ∧ p1544 ≠ p1528 ∧ RpAll G' (vs1546) ((told_1545 : (List (Int × Int × (List Int)))).map (encT3 PyData.int PyData.int (encL PyData.int))) ∧ cW (forS (List.drop i (v1504)) (due_1543, told_1545) (fun s x => F_law_b1  (s.1) (s.2) x)) K1541 EE) ?_ ?_ ?_ ?_⟩
    · have h1548 := (e1532 _ _ h1525)
      exact ⟨_, (([] : (List Int))), (([] : (List (Int × Int × (List Int))))), _, _, _, rfl, (Same.refl _), (S1536.sub (all_cons (.tail _ (.tail _ (.head _))) (all_cons (.tail _ (.head _)) (all_cons (.head _) all_nil)))), h1538, h1548, h1534, fr1526, (ne_of_none h1515 n1520).symm, (ne_of_none h1525 n1529), d1537, hw⟩
    · intro i σ H1549 _ hw
      obtain ⟨p1544, due_1543, told_1545, vs1546, u1547, G1558, rfl, eG1559, S1550, h1551, h1552, h1553, fr1554, ne1555, ne1556, d1557, hw⟩ := hw
      exact (SqL.of h1551)
    · intro i x σ H1560 hj hw
      obtain ⟨p1544, due_1543, told_1545, vs1546, u1547, G1569, rfl, eG1570, S1561, h1562, h1563, h1564, fr1565, ne1566, ne1567, d1568, hw⟩ := hw
      obtain ⟨x1571, hx, r1572⟩ := RpAll.get (RpAll.mono eG1570 d1516) hj
      obtain ⟨a1573, v1575, v1576, rfl, h1574, r1577, r1578⟩ := rp_tup2 r1572
      obtain rfl := rp_int r1577
      obtain ⟨a1579, rfl, h1580⟩ := rp_ints r1578
      have hw := cW_forS hx hw
      have hw : cW (F_law_b1  (due_1543) (told_1545) (x1571)) _ EE := hw
      unfold F_law_b1 at hw
      obtain ⟨K1583, hK1584, hw⟩ := cW_name hw
      refine ⟨_, rfl, (.inl ⟨rfl, _, SqL.of h1564⟩), _, rfl, _, _, rfl, (SqL.of h1563), _, rfl, _, _, _, _, rfl, rfl, (SqT.of (S1561.sG _ _ h1574)), rfl, _, rfl, _, _, _, _, rfl, rfl, (SqT.of (S1561.sG _ _ h1574)), rfl, _, _, rfl, (SqL.of (S1561.sG _ _ h1580)), fun p1586 n1587 => ?_⟩
      generalize g1588 : upd H1560 p1586 _ = H1589
      obtain ⟨e1590, h1591⟩ := gen_new n1587 g1588
      have h1592 : H1589 p1586 = some (.lst ((x1571.2 : (List Int)).map V.int)) := h1591
      have fr1593 := S1561.free n1587
      have S1594 := S1561.new n1587 e1590 h1592 fr1593
      refine ⟨(by show 3 ≤ sizeLine; decide), fun p1595 n1596 => ?_⟩
      generalize g1597 : upd H1589 p1595 _ = H1598
      obtain ⟨e1599, h1600⟩ := gen_new n1596 g1597
      have h1601 : H1598 p1595 = some (.tup [V.int ((((due_1543) : (List Int)).length : Int)), V.int (x1571.1), V.ref p1586]) := h1600
      have fr1602 := S1594.free n1596
      obtain ⟨G1604, eG1605, hg1606, S1603⟩ := S1594.grow n1596 e1599 h1601 fr1602
      obtain ⟨g1607, hw⟩ := cW_grd hw
      have h1608 := (e1599 _ _ (e1590 _ _ h1564))
      have h1609 := (e1599 _ _ h1592)
      obtain ⟨G1610, eG1611, hg1612, S1613⟩ := Sep.freeze (O' := [p1507, p1544, p1528]) S1603 (.head _) h1609 fr1593 ((all_cons ⟨(.tail _ (.head _)), (ne_of_none h1562 n1587)⟩ (all_cons ⟨(.tail _ (.tail _ (.head _))), (ne_of_none h1563 n1587)⟩ (all_cons ⟨(.tail _ (.tail _ (.tail _ (.head _)))), (ne_of_none h1564 n1587)⟩ all_nil))))
      refine ⟨_, _, _, rfl, rfl, h1608, (app_len (RpAll.mono eG1611 (RpAll.mono eG1605 d1568)) g1607), ?_⟩
      generalize g1614 : upd H1598 p1528 _ = H1615
      obtain ⟨x1616, h1617⟩ := gen_mut g1614
      have h1618 : H1615 p1528 = some (.lst (vs1546 ++ [V.ref p1595])) := h1617
      have S1619 := S1613.mut1 x1616 (.tail _ (.tail _ (.head _))) h1618
      have d1620 : RpAll G1610 (vs1546 ++ [V.ref p1595]) (((told_1545) ++ [((((due_1543) : (List Int)).length : Int), x1571.1, x1571.2)] : (List (Int × Int × (List Int)))).map (encT3 PyData.int PyData.int (encL PyData.int))) := app_map (RpAll.mono eG1611 (RpAll.mono eG1605 d1568)) (RpAll.one (rp_mk3 (eG1611 _ _ hg1606) (.int _) (.int _) (rp_mk_ints hg1612)))
      have hw := cW_bnd hw
      refine ⟨_, rfl, _, rfl, _, _, _, _, rfl, rfl, (SqT.of (S1619.sG _ _ (eG1611 _ _ (eG1605 _ _ h1574)))), rfl, (by show 4 ≤ sizeLine; decide), fun p1622 n1623 => ?_⟩
      generalize g1624 : upd H1615 p1622 _ = H1625
      obtain ⟨e1626, h1627⟩ := gen_new n1623 g1624
      have h1628 : H1625 p1622 = some (.lst (([0, 0, 1, x1571.1] : (List Int)).map V.int)) := h1627
      have fr1629 := S1619.free n1623
      have S1630 := S1619.new n1623 e1626 h1628 fr1629
      obtain ⟨g1631, hw⟩ := cW_grd hw
      have h1632 := (e1626 _ _ (x1616 _ _ (e1599 _ _ (e1590 _ _ h1563)) ne1567))
      refine ⟨_, _, _, _, rfl, rfl, h1632, h1628, (cat_lenM g1631), fun p1633 n1634 => ?_⟩
      generalize g1635 : upd H1625 p1633 _ = H1636
      obtain ⟨e1637, h1638⟩ := gen_new n1634 g1635
      have h1639 : H1636 p1633 = some (.lst (((due_1543) ++ ([0, 0, 1, x1571.1]) : (List Int)).map V.int)) := cat_map h1638
      have fr1640 := S1630.free n1634
      have S1641 := S1630.new n1634 e1637 h1639 fr1640
      refine ⟨_, rfl, _, _, _, _, rfl, rfl, (SqT.of (S1641.sG _ _ (eG1611 _ _ (eG1605 _ _ h1574)))), rfl, (by show 1 ≤ sizeLine; decide), fun p1642 n1643 => ?_⟩
      generalize g1644 : upd H1636 p1642 _ = H1645
      obtain ⟨e1646, h1647⟩ := gen_new n1643 g1644
      have h1648 : H1645 p1642 = some (.lst (([128] : (List Int)).map V.int)) := h1647
      have fr1649 := S1641.free n1643
      have S1650 := S1641.new n1643 e1646 h1648 fr1649
      obtain ⟨g1651, hw⟩ := cW_grd hw
      refine ⟨_, _, _, _, rfl, rfl, (S1650.sG _ _ (eG1611 _ _ (eG1605 _ _ h1580))), h1648, (cat_lenM g1651), fun p1652 n1653 => ?_⟩
      generalize g1654 : upd H1645 p1652 _ = H1655
      obtain ⟨e1656, h1657⟩ := gen_new n1653 g1654
      have h1658 : H1655 p1652 = some (.lst (((x1571.2) ++ ([128]) : (List Int)).map V.int)) := cat_map h1657
      have fr1659 := S1650.free n1653
      have S1660 := S1650.new n1653 e1656 h1658 fr1659
      refine ⟨rfl, rfl, G1610, _, _, rfl, S1660.sG, (hide_nil h1658), cW_call hw (fun v1661 hw p1664 H1662 n1665 e1663 h1666 => ?_) (fun e he => (hE e he).elim)⟩
      have h1667 : H1662 p1664 = some (.lst ((v1661 : (List Int)).map V.int)) := h1666
      have fr1668 := S1660.free n1665
      have S1669 := S1660.new n1665 e1663 h1667 fr1668
      obtain ⟨g1670, hw⟩ := cW_grd hw
      have h1671 := (e1663 _ _ (e1656 _ _ (e1646 _ _ h1639)))
      refine ⟨_, _, _, _, rfl, rfl, h1671, h1667, (cat_lenM g1670), fun p1672 n1673 => ?_⟩
      generalize g1674 : upd H1662 p1672 _ = H1675
      obtain ⟨e1676, h1677⟩ := gen_new n1673 g1674
      have h1678 : H1675 p1672 = some (.lst ((((due_1543) ++ ([0, 0, 1, x1571.1])) ++ (v1661) : (List Int)).map V.int)) := cat_map h1677
      have fr1679 := S1669.free n1673
      have S1680 := S1669.new n1673 e1676 h1678 fr1679
      have hw := cW_ok hw
      have hw := hK1584 _ hw
      have h1681 := (e1676 _ _ (e1663 _ _ (e1656 _ _ (e1646 _ _ (e1637 _ _ (e1626 _ _ (x1616 _ _ (e1599 _ _ (e1590 _ _ h1562)) (ne_of_none (e1523 _ _ h1515) n1529))))))))
      have h1682 := (e1676 _ _ (e1663 _ _ (e1656 _ _ (e1646 _ _ (e1637 _ _ (e1626 _ _ h1618))))))
      exact ⟨_, (((due_1543) ++ ([0, 0, 1, x1571.1])) ++ (v1661)), ((told_1545) ++ [((((due_1543) : (List Int)).length : Int), x1571.1, x1571.2)]), _, _, _, rfl, (Same.trans (Same.trans eG1570 eG1605) eG1611), (S1680.sub (all_cons (.tail _ (.tail _ (.tail _ (.tail _ (.tail _ (.tail _ (.head _))))))) (all_cons (.head _) (all_cons (.tail _ (.tail _ (.tail _ (.tail _ (.tail _ (.tail _ (.tail _ (.tail _ (.head _))))))))) all_nil)))), h1681, h1678, h1682, fr1679, (ne_of_none (e1663 _ _ (e1656 _ _ (e1646 _ _ (e1637 _ _ (e1626 _ _ (x1616 _ _ (e1599 _ _ (e1590 _ _ h1562)) (ne_of_none (e1523 _ _ h1515) n1529))))))) n1673).symm, (ne_of_none (e1663 _ _ (e1656 _ _ (e1646 _ _ (e1637 _ _ (e1626 _ _ h1618))))) n1673).symm, d1620, hw⟩
    · intro σ H1683 hw
      obtain ⟨p1544, due_1543, told_1545, vs1546, u1547, G1692, rfl, eG1693, S1684, h1685, h1686, h1687, fr1688, ne1689, ne1690, d1691, hw⟩ := hw
      have hw := hK1542 _ (cW_forS0 (by rw [(RpAll.mono eG1693 d1516).len, List.length_map]) hw)
      have hw : cW (F_law_r1 (script') (v1504) (due_1543) (told_1545)) _ EE := hw
      unfold F_law_r1 at hw
      obtain ⟨K1697, hK1698, hw⟩ := cW_push hw
      refine ⟨_, rfl, _, rfl, ⟨_, (SqL.of h1685)⟩, fun D1699 n1700 => lc_list (K := K) (a := p1507) (xs := vs1508) (fun i H' => ∃ (G' : Hp) (acc1702 : (List (Int × (List Int)))) (vs1703 : List V), Same G1692 G' ∧ Sep [] H H G' H' [D1699, p1507, p1544, p1528] ∧ H' p1507 = some (.lst (vs1508)) ∧ H' p1544 = some (.lst ((due_1543 : (List Int)).map V.int)) ∧ H' p1528 = some (.lst (vs1546)) ∧ H' D1699 = some (.lst vs1703) ∧ RpAll G' vs1703 ((acc1702 : (List (Int × (List Int)))).map (encT2 PyData.int (encL PyData.int))) ∧ Same H1683 H' ∧ cW (mapA (List.drop i (v1504)) acc1702 (fun x => noEr (F_law_c2  x))) K1697 EE) ?_ ?_ ?_ ?_⟩
      · generalize g1704 : upd H1683 D1699 _ = H1705
        obtain ⟨e1706, h1707⟩ := gen_new n1700 g1704
        have fr1708 := S1684.free n1700
        have S1709 := S1684.new n1700 e1706 h1707 fr1708
        have h1710 := (e1706 _ _ h1685)
        have h1711 := (e1706 _ _ h1686)
        have h1712 := (e1706 _ _ h1687)
        exact ⟨_, [], [], Same.refl _, S1709, h1710, h1711, h1712, h1707, RpAll.nil, e1706, hw⟩
      · intro i H1713 _ hw
        obtain ⟨G1716, acc1718, vs1719, eG1717, S1714, h1725, h1726, h1727, h1715, d1720, eo1724, hw⟩ := hw
        exact (SqL.of h1725)
      · intro i x H1728 hj hw
        obtain ⟨G1731, acc1733, vs1734, eG1732, S1729, h1740, h1741, h1742, h1730, d1735, eo1739, hw⟩ := hw
        obtain ⟨x1743, hx, r1744⟩ := RpAll.get (RpAll.mono eG1732 (RpAll.mono eG1693 d1516)) hj
        obtain ⟨a1745, v1747, v1748, rfl, h1746, r1749, r1750⟩ := rp_tup2 r1744
        obtain rfl := rp_int r1749
        obtain ⟨a1751, rfl, h1752⟩ := rp_ints r1750
        obtain ⟨z1753, hw⟩ := cW_mapA hx hw
        have hw := cW_noEr hw
        have hw : cW (F_law_c2  (x1743)) _ (fun _ => False) := hw
        unfold F_law_c2 at hw
        refine ⟨rfl, ?_⟩
        refine tyes_go ?_
        refine ⟨_, rfl, _, _, _, _, rfl, rfl, (SqT.of (S1729.sG _ _ h1746)), rfl, _, rfl, _, _, _, _, rfl, rfl, (SqT.of (S1729.sG _ _ h1746)), rfl, _, _, rfl, (SqL.of (S1729.sG _ _ h1752)), fun p1755 n1756 => ?_⟩
        generalize g1757 : upd H1728 p1755 _ = H1758
        obtain ⟨e1759, h1760⟩ := gen_new n1756 g1757
        have h1761 : H1758 p1755 = some (.lst ((x1743.2 : (List Int)).map V.int)) := h1760
        have fr1762 := S1729.free n1756
        have S1763 := S1729.new n1756 e1759 h1761 fr1762
        refine ⟨(by show 2 ≤ sizeLine; decide), fun p1764 n1765 => ?_⟩
        generalize g1766 : upd H1758 p1764 _ = H1767
        obtain ⟨e1768, h1769⟩ := gen_new n1765 g1766
        have h1770 : H1767 p1764 = some (.tup [V.int (x1743.1), V.ref p1755]) := h1769
        have fr1771 := S1763.free n1765
        obtain ⟨G1773, eG1774, hg1775, S1772⟩ := S1763.grow n1765 e1768 h1770 fr1771
        have h1776 := (e1768 _ _ h1761)
        obtain ⟨G1777, eG1778, hg1779, S1780⟩ := Sep.freeze (O' := [D1699, p1507, p1544, p1528]) S1772 (.head _) h1776 fr1762 ((all_cons ⟨(.tail _ (.head _)), (ne_of_none h1730 n1756)⟩ (all_cons ⟨(.tail _ (.tail _ (.head _))), (ne_of_none h1740 n1756)⟩ (all_cons ⟨(.tail _ (.tail _ (.tail _ (.head _)))), (ne_of_none h1741 n1756)⟩ (all_cons ⟨(.tail _ (.tail _ (.tail _ (.tail _ (.head _))))), (ne_of_none h1742 n1756)⟩ all_nil)))))
        have h1781 := (e1768 _ _ (e1759 _ _ h1730))
        refine ⟨_, h1781, (app_len (RpAll.mono eG1778 (RpAll.mono eG1774 d1735)) z1753), ?_⟩
        generalize g1782 : upd H1767 D1699 _ = H1783
        obtain ⟨x1784, h1785⟩ := gen_mut g1782
        have S1786 := S1780.mut1 x1784 (.head _) h1785
        have hw := cW_ok hw
        have h1787 := (x1784 _ _ (e1768 _ _ (e1759 _ _ h1740)) (ne_of_none h1685 n1700))
        have h1788 := (x1784 _ _ (e1768 _ _ (e1759 _ _ h1741)) (ne_of_none h1686 n1700))
        have h1789 := (x1784 _ _ (e1768 _ _ (e1759 _ _ h1742)) (ne_of_none h1687 n1700))
        exact ⟨_, (acc1733 ++ [(x1743.1, x1743.2)]), _, (Same.trans (Same.trans eG1732 eG1774) eG1778), S1786, h1787, h1788, h1789, h1785, (app_map (RpAll.mono eG1778 (RpAll.mono eG1774 d1735)) (RpAll.one (rp_mk2 (eG1778 _ _ hg1775) (.int _) (rp_mk_ints hg1779)))), (same_mut (Same.trans (Same.trans eo1739 e1759) e1768) x1784 n1700), hw⟩
      intro H1790 hw
      obtain ⟨G1793, acc1795, vs1796, eG1794, S1791, h1802, h1803, h1804, h1792, d1797, eo1801, hw⟩ := hw
      have hw := hK1698 _ (cW_mapA0 (by rw [(RpAll.mono eG1794 (RpAll.mono eG1693 d1516)).len, List.length_map]) hw)
      have fr1805 := S1684.free n1700
      refine ⟨_, rfl, rfl, rfl, G1793, _, _, rfl, S1791.sG, (Rp.hide_nil (rp_mk_list h1802 (RpAll.mono S1791.sG (RpAll.mono eG1794 (RpAll.mono eG1693 d1516))))), cW_call hw (fun v1806 hw p1809 H1807 n1810 e1808 h1811 => ?_) (fun e he => (hE e he).elim)⟩
      have h1812 : H1807 p1809 = some (.lst ((v1806 : (List Int)).map V.int)) := h1811
      have fr1813 := S1791.free n1810
      have S1814 := S1791.new n1810 e1808 h1812 fr1813
      refine ⟨_, rfl, _, _, _, _, _, rfl, (.ty _), (.base (.lst h1812)), rfl, _, rfl, ?_⟩
      refine iteF ?_
      have h1815 := (e1808 _ _ h1803)
      refine ⟨_, rfl, _, rfl, _, _, (rp_mk_ints h1812), (rp_mk_ints h1815), _, rfl, ?_⟩
      refine iteN (fun c1816 => ?_) (fun c1816 => ?_)
      · have hw := cW_neg c1816 hw
        refine iteT ?_
        have hw := cW_ok hw
        exact eq_bl (k _) (hK0 _ hw).symm
      · have hw := cW_pos c1816 hw
        have h1817 := (e1808 _ _ h1802)
        have h1818 := (e1808 _ _ h1792)
        refine ⟨_, rfl, _, rfl, _, _, (rp_mk_list h1817 (RpAll.mono S1814.sG (RpAll.mono eG1794 (RpAll.mono eG1693 d1516)))), (rp_mk_list h1818 (RpAll.mono S1814.sG d1797)), _, rfl, ?_⟩
        refine iteN (fun c1819 => ?_) (fun c1819 => ?_)
        · have hw := cW_neg c1819 hw
          have hw := cW_ok hw
          exact eq_bl (k _) (hK0 _ hw).symm
        · have hw := cW_pos c1819 hw
          refine ⟨_, rfl, rfl, rfl, G1793, _, _, rfl, S1814.sG, (hide_nil h1812), cW_callN hw (fun v1820 hw p1823 vs1824 H1821 G1825 n1826 e1822 eG1827 sG1828 hn1829 gp1830 h1831 d1832 => ?_) trivial⟩
          have fr1834 := S1814.free n1826
          have S1833 := S1814.stepnew e1822 eG1827 sG1828 hn1829 n1826 h1831 gp1830 fr1834
          have h1835 := (e1822 _ _ (e1808 _ _ h1804))
          refine ⟨_, rfl, _, _, (rp_mk_list h1831 (RpAll.mono S1833.sG d1832)), (rp_mk_list h1835 (RpAll.mono S1833.sG (RpAll.mono eG1827 (RpAll.mono eG1794 d1691)))), _, rfl, ?_⟩
          refine iteN (fun c1836 => ?_) (fun c1836 => ?_)
          · have hw := cW_neg c1836 hw
            refine iteT ?_
            have hw := cW_ok hw
            exact eq_bl (k _) (hK0 _ hw).symm
          · have hw := cW_pos c1836 hw
            have h1837 := (e1822 _ _ h1812)
            have h1838 := (e1822 _ _ h1815)
            refine ⟨_, rfl, _, rfl, _, _, (rp_mk_ints h1837), (rp_mk_ints h1838), _, rfl, ?_⟩
            refine iteN (fun c1839 => ?_) (fun c1839 => ?_)
            · have hw := cW_neg c1839 hw
              have hw := cW_ok hw
              exact eq_bl (k _) (hK0 _ hw).symm
            · have hw := cW_pos c1839 hw
              have h1840 := (e1822 _ _ h1817)
              obtain ⟨G1841, eG1842, hg1843, S1844⟩ := Sep.freeze (O' := [p1823, p1809, D1699, p1544, p1528]) S1833 (.tail _ (.tail _ (.tail _ (.head _)))) h1840 fr1518 ((all_cons ⟨(.head _), (ne_of_none h1817 n1826).symm⟩ (all_cons ⟨(.tail _ (.head _)), (ne_of_none h1802 n1810).symm⟩ (all_cons ⟨(.tail _ (.tail _ (.head _))), (ne_of_none h1685 n1700).symm⟩ (all_cons ⟨(.tail _ (.tail _ (.tail _ (.tail _ (.head _))))), ne1689⟩ (all_cons ⟨(.tail _ (.tail _ (.tail _ (.tail _ (.tail _ (.head _)))))), (ne_of_none (e1523 _ _ h1515) n1529).symm⟩ all_nil))))))
              refine ⟨_, rfl, _, rfl, _, _, rfl, (SqL.of h1840), fun p1845 n1846 => ?_⟩
              generalize g1847 : upd H1821 p1845 _ = H1848
              obtain ⟨e1849, h1850⟩ := gen_new n1846 g1847
              have h1851 : H1848 p1845 = some (.lst (cutV (vs1508) none (some (3)))) := h1850
              have fr1852 := S1844.free n1846
              have S1853 := S1844.new n1846 e1849 h1851 fr1852
              have d1854 : RpAll G1841 (cutV (vs1508) none (some (3))) ((cutL (v1504) none (some (3)) : (List (Int × (List Int)))).map (encT2 PyData.int (encL PyData.int))) := cut_all none (some (3)) (RpAll.mono eG1842 (RpAll.mono eG1827 (RpAll.mono eG1794 (RpAll.mono eG1693 d1516))))
              obtain ⟨K1857, hK1858, hw⟩ := cW_push hw
              refine ⟨_, rfl, ⟨_, (SqL.of h1851)⟩, for_list (K := K) (a := p1845) (xs := cutV (vs1508) none (some (3))) (fun i σ H' => ∃ (u1859 : Option V) (G' : Hp), σ = [some (V.ref a_script), some (V.ref p1507), some (V.ref p1544), some (V.ref p1528), u1859, some (V.ref D1699), some (V.ref p1809), none, none] ∧ Same G1841 G' ∧ Sep [] H H G' H' [p1544, p1528, D1699, p1809, p1845] ∧ H' p1544 = some (.lst ((due_1543 : (List Int)).map V.int)) ∧ H' p1528 = some (.lst (vs1546)) ∧ H' D1699 = some (.lst (vs1796)) ∧ H' p1809 = some (.lst ((v1806 : (List Int)).map V.int)) ∧ H' p1845 = some (.lst (cutV (vs1508) none (some (3)))) ∧ cW (forR (List.drop i (cutL (v1504) none (some (3)))) () (fun s x => F_law_b3   x)) K1857 EE) ?_ ?_ ?_ ?_⟩
              · have h1860 := (e1849 _ _ h1838)
                have h1861 := (e1849 _ _ h1835)
                have h1862 := (e1849 _ _ (e1822 _ _ h1818))
                have h1863 := (e1849 _ _ h1837)
                exact ⟨_, _, rfl, (Same.refl _), (S1853.sub (all_cons (.tail _ (.tail _ (.tail _ (.tail _ (.head _))))) (all_cons (.tail _ (.tail _ (.tail _ (.tail _ (.tail _ (.head _)))))) (all_cons (.tail _ (.tail _ (.tail _ (.head _)))) (all_cons (.tail _ (.tail _ (.head _))) (all_cons (.head _) all_nil)))))), h1860, h1861, h1862, h1863, h1851, hw⟩
              · intro i σ H1864 _ hw
                obtain ⟨u1859, G1871, rfl, eG1872, S1865, h1866, h1867, h1868, h1869, h1870, hw⟩ := hw
                exact (SqL.of h1870)
              · intro i x σ H1873 hj hw
                obtain ⟨u1859, G1880, rfl, eG1881, S1874, h1875, h1876, h1877, h1878, h1879, hw⟩ := hw
                obtain ⟨x1882, hx, r1883⟩ := RpAll.get (RpAll.mono eG1881 d1854) hj
                obtain ⟨a1884, v1886, v1887, rfl, h1885, r1888, r1889⟩ := rp_tup2 r1883
                obtain rfl := rp_int r1888
                obtain ⟨a1890, rfl, h1891⟩ := rp_ints r1889
                have hw := cW_forR hx hw
                have hw : cW (F_law_b3   (x1882)) _ EE := hw
                unfold F_law_b3 at hw
                obtain ⟨K1892, hK1893, hw⟩ := cW_name hw
                refine ⟨_, rfl, _, _, _, _, rfl, rfl, (SqT.of (S1874.sG _ _ h1885)), rfl, _, rfl, _, _, _, _, rfl, rfl, (SqT.of (S1874.sG _ _ h1885)), rfl, rfl, rfl, G1880, _, _, _, rfl, S1874.sG, (hide_nil (S1874.sG _ _ h1891)), cW_call hw (fun v1895 hw p1898 H1896 n1899 e1897 h1900 => ?_) (fun e he => (hE e he).elim)⟩
                have h1901 : H1896 p1898 = some (.lst ((v1895 : (List Int)).map V.int)) := h1900
                have fr1902 := S1874.free n1899
                have S1903 := S1874.new n1899 e1897 h1901 fr1902
                refine ⟨_, rfl, _, _, _, _, rfl, rfl, (SqT.of (S1903.sG _ _ h1885)), rfl, (by show 4 ≤ sizeLine; decide), fun p1904 n1905 => ?_⟩
                generalize g1906 : upd H1896 p1904 _ = H1907
                obtain ⟨e1908, h1909⟩ := gen_new n1905 g1906
                have h1910 : H1907 p1904 = some (.lst (([0, 0, 1, x1882.1] : (List Int)).map V.int)) := h1909
                have fr1911 := S1903.free n1905
                have S1912 := S1903.new n1905 e1908 h1910 fr1911
                refine ⟨_, rfl, _, _, _, _, rfl, rfl, (SqT.of (S1912.sG _ _ h1885)), rfl, (by show 1 ≤ sizeLine; decide), fun p1913 n1914 => ?_⟩
                generalize g1915 : upd H1907 p1913 _ = H1916
                obtain ⟨e1917, h1918⟩ := gen_new n1914 g1915
                have h1919 : H1916 p1913 = some (.lst (([128] : (List Int)).map V.int)) := h1918
                have fr1920 := S1912.free n1914
                have S1921 := S1912.new n1914 e1917 h1919 fr1920
                obtain ⟨g1922, hw⟩ := cW_grd hw
                refine ⟨_, _, _, _, rfl, rfl, (S1921.sG _ _ h1891), h1919, (cat_lenM g1922), fun p1923 n1924 => ?_⟩
                generalize g1925 : upd H1916 p1923 _ = H1926
                obtain ⟨e1927, h1928⟩ := gen_new n1924 g1925
                have h1929 : H1926 p1923 = some (.lst (((x1882.2) ++ ([128]) : (List Int)).map V.int)) := cat_map h1928
                have fr1930 := S1921.free n1924
                have S1931 := S1921.new n1924 e1927 h1929 fr1930
                refine ⟨rfl, rfl, G1880, _, _, rfl, S1931.sG, (hide_nil h1929), cW_call hw (fun v1932 hw p1935 H1933 n1936 e1934 h1937 => ?_) (fun e he => (hE e he).elim)⟩
                have h1938 : H1933 p1935 = some (.lst ((v1932 : (List Int)).map V.int)) := h1937
                have fr1939 := S1931.free n1936
                have S1940 := S1931.new n1936 e1934 h1938 fr1939
                obtain ⟨g1941, hw⟩ := cW_grd hw
                have h1942 := (e1934 _ _ (e1927 _ _ (e1917 _ _ h1910)))
                refine ⟨_, _, _, _, rfl, rfl, h1942, h1938, (cat_lenM g1941), fun p1943 n1944 => ?_⟩
                generalize g1945 : upd H1933 p1943 _ = H1946
                obtain ⟨e1947, h1948⟩ := gen_new n1944 g1945
                have h1949 : H1946 p1943 = some (.lst ((([0, 0, 1, x1882.1]) ++ (v1932) : (List Int)).map V.int)) := cat_map h1948
                have fr1950 := S1940.free n1944
                have S1951 := S1940.new n1944 e1947 h1949 fr1950
                have h1952 := (e1947 _ _ (e1934 _ _ (e1927 _ _ (e1917 _ _ (e1908 _ _ h1901)))))
                refine ⟨_, _, (rp_mk_ints h1952), (rp_mk_ints h1949), _, rfl, ?_⟩
                refine iteN (fun c1953 => ?_) (fun c1953 => ?_)
                · have hw := cW_neg c1953 hw
                  have hw := cW_ok hw
                  have hw := hK1893 (.rt _) hw
                  have hw := hK1858 (.rt _) hw
                  have hw := cW_ok hw
                  exact eq_bl (k _) (hK0 _ hw).symm
                · have hw := cW_pos c1953 hw
                  have hw := cW_ok hw
                  have hw := hK1893 _ hw
                  have h1954 := (e1947 _ _ (e1934 _ _ (e1927 _ _ (e1917 _ _ (e1908 _ _ (e1897 _ _ h1875))))))
                  have h1955 := (e1947 _ _ (e1934 _ _ (e1927 _ _ (e1917 _ _ (e1908 _ _ (e1897 _ _ h1876))))))
                  have h1956 := (e1947 _ _ (e1934 _ _ (e1927 _ _ (e1917 _ _ (e1908 _ _ (e1897 _ _ h1877))))))
                  have h1957 := (e1947 _ _ (e1934 _ _ (e1927 _ _ (e1917 _ _ (e1908 _ _ (e1897 _ _ h1878))))))
                  have h1958 := (e1947 _ _ (e1934 _ _ (e1927 _ _ (e1917 _ _ (e1908 _ _ (e1897 _ _ h1879))))))
                  exact ⟨_, _, rfl, eG1881, (S1951.sub (all_cons (.tail _ (.tail _ (.tail _ (.tail _ (.tail _ (.tail _ (.head _))))))) (all_cons (.tail _ (.tail _ (.tail _ (.tail _ (.tail _ (.tail _ (.tail _ (.head _)))))))) (all_cons (.tail _ (.tail _ (.tail _ (.tail _ (.tail _ (.tail _ (.tail _ (.tail _ (.head _))))))))) (all_cons (.tail _ (.tail _ (.tail _ (.tail _ (.tail _ (.tail _ (.tail _ (.tail _ (.tail _ (.head _)))))))))) (all_cons (.tail _ (.tail _ (.tail _ (.tail _ (.tail _ (.tail _ (.tail _ (.tail _ (.tail _ (.tail _ (.head _))))))))))) all_nil)))))), h1954, h1955, h1956, h1957, h1958, hw⟩
              · intro σ H1959 hw
                obtain ⟨u1859, G1966, rfl, eG1967, S1960, h1961, h1962, h1963, h1964, h1965, hw⟩ := hw
                have hw := cW_aftgo (hK1858 _ (cW_forR0 (by rw [(RpAll.mono eG1967 d1854).len, List.length_map]) hw))
                have hw : cW (F_law_r3 (script') (v1504) ) _ EE := hw
                unfold F_law_r3 at hw
                refine ⟨_, rfl, rfl, rfl, G1966, _, _, _, rfl, S1960.sG, (S1960.b0.seq q_script), cW_call hw (fun v1968 hw => ?_) (fun e he => (hE e he).elim)⟩
                refine ⟨(by show 2 ≤ sizeLine; decide), fun p1969 n1970 => ?_⟩
                generalize g1971 : upd H1959 p1969 _ = H1972
                obtain ⟨e1973, h1974⟩ := gen_new n1970 g1971
                have h1975 : H1972 p1969 = some (.lst (([4, 1000] : (List Int)).map V.int)) := h1974
                have fr1976 := S1960.free n1970
                have S1977 := S1960.new n1970 e1973 h1975 fr1976
                refine ⟨rfl, rfl, G1966, _, _, _, rfl, S1977.sG, (hide_nil h1975), cW_call hw (fun v1978 hw p1981 H1979 n1982 e1980 h1983 => ?_) (fun e he => (hE e he).elim)⟩
                have h1984 : H1979 p1981 = some (.lst ((v1978 : (List Int)).map V.int)) := h1983
                have fr1985 := S1977.free n1982
                have S1986 := S1977.new n1982 e1980 h1984 fr1985
                obtain ⟨g1987, hw⟩ := cW_grd hw
                obtain ⟨g1988, hw⟩ := cW_grd hw
                refine ⟨_, rfl, _, _, _, _, rfl, rfl, (SqL.of h1984), (atI_map g1987), _, rfl, _, rfl, _, _, _, _, rfl, rfl, (SqL.of h1984), (atI_map g1988), _, _, rfl, rfl, (by show 4 ≤ sizeLine; decide), fun p1989 n1990 => ?_⟩
                generalize g1991 : upd H1979 p1989 _ = H1992
                obtain ⟨e1993, h1994⟩ := gen_new n1990 g1991
                have h1995 : H1992 p1989 = some (.lst (([0, 32, (-(itD (v1978) (1))), (32 + (itD (v1978) (1)))] : (List Int)).map V.int)) := h1994
                have fr1996 := S1986.free n1990
                have S1997 := S1986.new n1990 e1993 h1995 fr1996
                obtain ⟨g1998, hw⟩ := cW_grd hw
                have h1999 := (e1993 _ _ h1984)
                obtain ⟨g2000, hw⟩ := cW_grd hw
                refine ⟨_, rfl, _, _, _, _, rfl, rfl, (SqL.of h1999), (atI_map g1998), _, _, _, _, rfl, rfl, (SqL.of h1995), (atI_map g2000), ?_⟩
                have hw := cW_bnd hw
                refine ⟨_, rfl, _, rfl, rfl, rfl, G1966, _, _, _, rfl, S1997.sG, (S1997.b0.seq q_script), cW_call hw (fun v2002 hw => ?_) (fun e he => (hE e he).elim)⟩
                refine ⟨rfl, rfl, G1966, _, _, rfl, S1997.sG, cW_call hw (fun v2003 hw p2006 H2004 n2007 e2005 h2008 => ?_) (fun e he => (hE e he).elim)⟩
                have h2009 : H2004 p2006 = some (.lst ((v2003 : (List Int)).map V.int)) := h2008
                have fr2010 := S1997.free n2007
                have S2011 := S1997.new n2007 e2005 h2009 fr2010
                refine ⟨_, rfl, _, rfl, _, _, rfl, (SqL.of (S2011.sG _ _ (eG1967 _ _ hg1843))), fun p2012 n2013 => ?_⟩
                generalize g2014 : upd H2004 p2012 _ = H2015
                obtain ⟨e2016, h2017⟩ := gen_new n2013 g2014
                have h2018 : H2015 p2012 = some (.lst (cutV (vs1508) none (some (2)))) := h2017
                have fr2019 := S2011.free n2013
                have S2020 := S2011.new n2013 e2016 h2018 fr2019
                have d2021 : RpAll G1966 (cutV (vs1508) none (some (2))) ((cutL (v1504) none (some (2)) : (List (Int × (List Int)))).map (encT2 PyData.int (encL PyData.int))) := cut_all none (some (2)) (RpAll.mono eG1967 (RpAll.mono eG1842 (RpAll.mono eG1827 (RpAll.mono eG1794 (RpAll.mono eG1693 d1516)))))
                have h2022 := (e2016 _ _ h2009)
                obtain ⟨G2023, eG2024, hg2025, S2026⟩ := Sep.freeze (O' := [p2012, p1989, p1981, p1969, p1544, p1528, D1699, p1809, p1845]) S2020 (.tail _ (.head _)) h2022 fr2010 ((all_cons ⟨(.head _), (ne_of_none h2009 n2013).symm⟩ (all_cons ⟨(.tail _ (.tail _ (.head _))), (ne_of_none h1995 n2007)⟩ (all_cons ⟨(.tail _ (.tail _ (.tail _ (.head _)))), (ne_of_none h1999 n2007)⟩ (all_cons ⟨(.tail _ (.tail _ (.tail _ (.tail _ (.head _))))), (ne_of_none (e1993 _ _ (e1980 _ _ h1975)) n2007)⟩ (all_cons ⟨(.tail _ (.tail _ (.tail _ (.tail _ (.tail _ (.head _)))))), (ne_of_none (e1993 _ _ (e1980 _ _ (e1973 _ _ h1961))) n2007)⟩ (all_cons ⟨(.tail _ (.tail _ (.tail _ (.tail _ (.tail _ (.tail _ (.head _))))))), (ne_of_none (e1993 _ _ (e1980 _ _ (e1973 _ _ h1962))) n2007)⟩ (all_cons ⟨(.tail _ (.tail _ (.tail _ (.tail _ (.tail _ (.tail _ (.tail _ (.head _)))))))), (ne_of_none (e1993 _ _ (e1980 _ _ (e1973 _ _ h1963))) n2007)⟩ (all_cons ⟨(.tail _ (.tail _ (.tail _ (.tail _ (.tail _ (.tail _ (.tail _ (.tail _ (.head _))))))))), (ne_of_none (e1993 _ _ (e1980 _ _ (e1973 _ _ h1964))) n2007)⟩ (all_cons ⟨(.tail _ (.tail _ (.tail _ (.tail _ (.tail _ (.tail _ (.tail _ (.tail _ (.tail _ (.head _)))))))))), (ne_of_none (e1993 _ _ (e1980 _ _ (e1973 _ _ h1965))) n2007)⟩ all_nil))))))))))
                obtain ⟨G2027, eG2028, hg2029, S2030⟩ := Sep.freeze (O' := [p1989, p1981, p1969, p1544, p1528, D1699, p1809, p1845]) S2026 (.head _) h2018 fr2019 ((all_cons ⟨(.tail _ (.head _)), (ne_of_none (e2005 _ _ h1995) n2013)⟩ (all_cons ⟨(.tail _ (.tail _ (.head _))), (ne_of_none (e2005 _ _ h1999) n2013)⟩ (all_cons ⟨(.tail _ (.tail _ (.tail _ (.head _)))), (ne_of_none (e2005 _ _ (e1993 _ _ (e1980 _ _ h1975))) n2013)⟩ (all_cons ⟨(.tail _ (.tail _ (.tail _ (.tail _ (.head _))))), (ne_of_none (e2005 _ _ (e1993 _ _ (e1980 _ _ (e1973 _ _ h1961)))) n2013)⟩ (all_cons ⟨(.tail _ (.tail _ (.tail _ (.tail _ (.tail _ (.head _)))))), (ne_of_none (e2005 _ _ (e1993 _ _ (e1980 _ _ (e1973 _ _ h1962)))) n2013)⟩ (all_cons ⟨(.tail _ (.tail _ (.tail _ (.tail _ (.tail _ (.tail _ (.head _))))))), (ne_of_none (e2005 _ _ (e1993 _ _ (e1980 _ _ (e1973 _ _ h1963)))) n2013)⟩ (all_cons ⟨(.tail _ (.tail _ (.tail _ (.tail _ (.tail _ (.tail _ (.tail _ (.head _)))))))), (ne_of_none (e2005 _ _ (e1993 _ _ (e1980 _ _ (e1973 _ _ h1964)))) n2013)⟩ (all_cons ⟨(.tail _ (.tail _ (.tail _ (.tail _ (.tail _ (.tail _ (.tail _ (.tail _ (.head _))))))))), (ne_of_none (e2005 _ _ (e1993 _ _ (e1980 _ _ (e1973 _ _ h1965)))) n2013)⟩ all_nil)))))))))
                refine ⟨rfl, rfl, G2027, _, _, _, _, _, rfl, S2030.sG, (eG2028 _ _ hg2025), (rp_mk_list hg2029 (RpAll.mono eG2028 (RpAll.mono eG2024 d2021))), cW_call hw (fun v2031 hw H2032 e2033 => ?_) (fun e he => (hE e he).elim)⟩
                have S2034 := S2030.same e2033
                refine ⟨_, rfl, ?_⟩
                refine iteB (fun c2035 => ?_) (fun c2035 => ?_)
                · have hw := cW_pos c2035 hw
                  refine ⟨_, rfl, rfl, rfl, G2027, _, _, _, rfl, S2034.sG, (S2034.b0.seq q_script), cW_call hw (fun v2036 hw => ?_) (fun e he => (hE e he).elim)⟩
                  refine ⟨rfl, rfl, G2027, _, rfl, S2034.sG, cW_call hw (fun v2037 hw H2038 e2039 => ?_) (fun e he => (hE e he).elim)⟩
                  have S2040 := S2034.same e2039
                  have hw := cW_ok hw
                  exact eq_bl (k _) (hK0 _ hw).symm
                · have hw := cW_negB c2035 hw
                  have hw := cW_ok hw
                  exact eq_bl (k _) (hK0 _ hw).symm
end
def spL (K : PySem.W.Frag) : Sp := fun vs H Q _ => ∃ (a_script : Addr) (script : List Int), vs = [.ref a_script] ∧ SqL K H a_script (script.map V.int) ∧ script.length ≤ 63 ∧ ∀ H', Q (.bl true) H'
theorem all_mk {l : PySem.W.OpenLaw} {w : World} {K : PySem.W.Frag} {h : Heap} {mg : Str → Option Value} {fa : Addr} (X : K.In h) (G : h.Ns mainGlobals mg) (hfa : mg "law" = some (.ref fa))
    {f0 f1 f2 f3 f4 f5 f6 f7 f8 f9 f10 f11 f12 f13 f14 XCodecError XOutOfRange : Addr} {od0 an0 od1 an1 od2 an2 od3 an3 od4 an4 od5 an5 od6 an6 od7 an7 od8 an8 od9 an9 od10 an10 od11 an11 od12 an12 od13 an13 od14 an14 : Option Addr} {sl0 sl1 sl2 sl3 sl4 sl5 sl6 sl7 sl8 sl9 sl10 sl11 sl12 sl13 sl14 : Array (Option Value)} {oc0 kV0 dc0 pm0 cd0 ct0 oc1 kV1 dc1 pm1 cd1 ct1 oc2 kV2 dc2 pm2 cd2 ct2 oc3 kV3 dc3 pm3 cd3 ct3 oc4 kV4 dc4 pm4 cd4 ct4 oc5 kV5 dc5 pm5 cd5 ct5 oc6 kV6 dc6 pm6 cd6 ct6 oc7 kV7 dc7 pm7 cd7 ct7 oc8 kV8 dc8 pm8 cd8 ct8 oc9 kV9 dc9 pm9 cd9 ct9 oc10 kV10 dc10 pm10 cd10 ct10 oc11 kV11 dc11 pm11 cd11 ct11 oc12 kV12 dc12 pm12 cd12 ct12 oc13 kV13 dc13 pm13 cd13 ct13 oc14 kV14 dc14 pm14 cd14 ct14 : Value} {tk5 tk6 tk7 tk8 : Tok}
    (vCodecError : PySem.W.nsIn K mainGlobals "CodecError" = some (some (.ref XCodecError))) (vOutOfRange : PySem.W.nsIn K mainGlobals "OutOfRange" = some (some (.ref XOutOfRange))) (a0 : PySem.W.nsIn K mainGlobals "_law_draws" = some (some (.ref f0))) (l0 : K.lookup f0 = some ⟨oc0, od0, .func (PySem.W.fnOf "_law_draws" "_law_draws" (defArgs s__law_draws) (defBody s__law_draws) (defScope s__law_draws) .none kV0 dc0 pm0 an0 cd0 ct0), sl0⟩) (c0 : PySem.W.codeIn K cd0 "_law_draws" = true) (k0 : PySem.W.keepIn K (.ref f0) = true) (a1 : PySem.W.nsIn K mainGlobals "_law_cell" = some (some (.ref f1))) (l1 : K.lookup f1 = some ⟨oc1, od1, .func (PySem.W.fnOf "_law_cell" "_law_cell" (defArgs s__law_cell) (defBody s__law_cell) (defScope s__law_cell) .none kV1 dc1 pm1 an1 cd1 ct1), sl1⟩) (c1 : PySem.W.codeIn K cd1 "_law_cell" = true) (k1 : PySem.W.keepIn K (.ref f1) = true) (a2 : PySem.W.nsIn K mainGlobals "_law_some" = some (some (.ref f2))) (l2 : K.lookup f2 = some ⟨oc2, od2, .func (PySem.W.fnOf "_law_some" "_law_some" (defArgs s__law_some) (defBody s__law_some) (defScope s__law_some) .none kV2 dc2 pm2 an2 cd2 ct2), sl2⟩) (c2 : PySem.W.codeIn K cd2 "_law_some" = true) (k2 : PySem.W.keepIn K (.ref f2) = true) (a3 : PySem.W.nsIn K mainGlobals "_law_units" = some (some (.ref f3))) (l3 : K.lookup f3 = some ⟨oc3, od3, .func (PySem.W.fnOf "_law_units" "_law_units" (defArgs s__law_units) (defBody s__law_units) (defScope s__law_units) .none kV3 dc3 pm3 an3 cd3 ct3), sl3⟩) (c3 : PySem.W.codeIn K cd3 "_law_units" = true) (k3 : PySem.W.keepIn K (.ref f3) = true) (a4 : PySem.W.nsIn K mainGlobals "escape" = some (some (.ref f4))) (l4 : K.lookup f4 = some ⟨oc4, od4, .func (PySem.W.fnOf "escape" "escape" (defArgs s_escape) (defBody s_escape) (defScope s_escape) .none kV4 dc4 pm4 an4 cd4 ct4), sl4⟩) (c4 : PySem.W.codeIn K cd4 "escape" = true) (k4 : PySem.W.keepIn K (.ref f4) = true) (a5 : PySem.W.nsIn K mainGlobals "write_unit" = some (some (.ref f5))) (l5 : K.lookup f5 = some ⟨oc5, od5, .func (PySem.W.fnOf "write_unit" "write_unit" (defArgs s_write_unit) (defBody s_write_unit) (defScope s_write_unit) .none kV5 dc5 pm5 an5 cd5 ct5), sl5⟩) (c5 : PySem.W.codeIn K cd5 "write_unit" = true) (k5 : PySem.W.keepIn K (.ref f5) = true) (a6 : PySem.W.nsIn K mainGlobals "write_units" = some (some (.ref f6))) (l6 : K.lookup f6 = some ⟨oc6, od6, .func (PySem.W.fnOf "write_units" "write_units" (defArgs s_write_units) (defBody s_write_units) (defScope s_write_units) .none kV6 dc6 pm6 an6 cd6 ct6), sl6⟩) (c6 : PySem.W.codeIn K cd6 "write_units" = true) (k6 : PySem.W.keepIn K (.ref f6) = true) (a7 : PySem.W.nsIn K mainGlobals "_law_refused" = some (some (.ref f7))) (l7 : K.lookup f7 = some ⟨oc7, od7, .func (PySem.W.fnOf "_law_refused" "_law_refused" (defArgs s__law_refused) (defBody s__law_refused) (defScope s__law_refused) .none kV7 dc7 pm7 an7 cd7 ct7), sl7⟩) (c7 : PySem.W.codeIn K cd7 "_law_refused" = true) (k7 : PySem.W.keepIn K (.ref f7) = true) (a8 : PySem.W.nsIn K mainGlobals "_starts" = some (some (.ref f8))) (l8 : K.lookup f8 = some ⟨oc8, od8, .func (PySem.W.fnOf "_starts" "_starts" (defArgs s__starts) (defBody s__starts) (defScope s__starts) .none kV8 dc8 pm8 an8 cd8 ct8), sl8⟩) (c8 : PySem.W.codeIn K cd8 "_starts" = true) (k8 : PySem.W.keepIn K (.ref f8) = true) (a9 : PySem.W.nsIn K mainGlobals "unescape" = some (some (.ref f9))) (l9 : K.lookup f9 = some ⟨oc9, od9, .func (PySem.W.fnOf "unescape" "unescape" (defArgs s_unescape) (defBody s_unescape) (defScope s_unescape) .none kV9 dc9 pm9 an9 cd9 ct9), sl9⟩) (c9 : PySem.W.codeIn K cd9 "unescape" = true) (k9 : PySem.W.keepIn K (.ref f9) = true) (a10 : PySem.W.nsIn K mainGlobals "_read_raw" = some (some (.ref f10))) (l10 : K.lookup f10 = some ⟨oc10, od10, .func (PySem.W.fnOf "_read_raw" "_read_raw" (defArgs s__read_raw) (defBody s__read_raw) (defScope s__read_raw) .none kV10 dc10 pm10 an10 cd10 ct10), sl10⟩) (c10 : PySem.W.codeIn K cd10 "_read_raw" = true) (k10 : PySem.W.keepIn K (.ref f10) = true) (a11 : PySem.W.nsIn K mainGlobals "read_units" = some (some (.ref f11))) (l11 : K.lookup f11 = some ⟨oc11, od11, .func (PySem.W.fnOf "read_units" "read_units" (defArgs s_read_units) (defBody s_read_units) (defScope s_read_units) .none kV11 dc11 pm11 an11 cd11 ct11), sl11⟩) (c11 : PySem.W.codeIn K cd11 "read_units" = true) (k11 : PySem.W.keepIn K (.ref f11) = true) (a12 : PySem.W.nsIn K mainGlobals "_law_large" = some (some (.ref f12))) (l12 : K.lookup f12 = some ⟨oc12, od12, .func (PySem.W.fnOf "_law_large" "_law_large" (defArgs s__law_large) (defBody s__law_large) (defScope s__law_large) .none kV12 dc12 pm12 an12 cd12 ct12), sl12⟩) (c12 : PySem.W.codeIn K cd12 "_law_large" = true) (k12 : PySem.W.keepIn K (.ref f12) = true) (a13 : PySem.W.nsIn K mainGlobals "_law_escape" = some (some (.ref f13))) (l13 : K.lookup f13 = some ⟨oc13, od13, .func (PySem.W.fnOf "_law_escape" "_law_escape" (defArgs s__law_escape) (defBody s__law_escape) (defScope s__law_escape) .none kV13 dc13 pm13 an13 cd13 ct13), sl13⟩) (c13 : PySem.W.codeIn K cd13 "_law_escape" = true) (k13 : PySem.W.keepIn K (.ref f13) = true) (a14 : PySem.W.nsIn K mainGlobals "law" = some (some (.ref f14))) (l14 : K.lookup f14 = some ⟨oc14, od14, .func (PySem.W.fnOf "law" "law" (defArgs s_law) (defBody s_law) (defScope s_law) .none kV14 dc14 pm14 an14 cd14 ct14), sl14⟩) (c14 : PySem.W.codeIn K cd14 "law" = true) (k14 : PySem.W.keepIn K (.ref f14) = true)
    (z0 : PySem.W.nsIn K mainGlobals "abs" = some none) (z1 : PySem.W.nsIn K mainGlobals "int" = some none) (z2 : PySem.W.nsIn K mainGlobals "len" = some none) (z3 : PySem.W.nsIn K mainGlobals "range" = some none) (z4 : PySem.W.nsIn K mainGlobals "min" = some none) (z5 : PySem.W.nsIn K mainGlobals "ESCAPE" = some (some (.int 3 tk5))) (z6 : PySem.W.nsIn K mainGlobals "GREATEST_KIND" = some (some (.int 31 tk6))) (z7 : PySem.W.nsIn K mainGlobals "MOST_OCTETS" = some (some (.int 65536 tk7))) (z8 : PySem.W.nsIn K mainGlobals "STOP" = some (some (.int 128 tk8))) (z9 : PySem.W.nsIn K mainGlobals "list" = some none) (z10 : PySem.W.nsIn K mainGlobals "isinstance" = some none) (z11 : PySem.W.nsIn K mainGlobals "zip" = some none) (exOutOfRange : PySem.W.excIn K XOutOfRange [.type "ValueError", .type "Exception", .type "BaseException", .type "object"] "ValueError.__new__" = true) (ekOutOfRange : PySem.W.keepIn K (.ref XOutOfRange) = true) (ebOutOfRange : PySem.W.subIn K (.ref XOutOfRange) (.type "BaseException") = some true) (etOutOfRange : PySem.W.typeIn K (.ref XOutOfRange) = some (.type "type")) (exCodecError : PySem.W.excIn K XCodecError [.type "ValueError", .type "Exception", .type "BaseException", .type "object"] "ValueError.__new__" = true) (ekCodecError : PySem.W.keepIn K (.ref XCodecError) = true) (ebCodecError : PySem.W.subIn K (.ref XCodecError) (.type "BaseException") = some true) (etCodecError : PySem.W.typeIn K (.ref XCodecError) = some (.type "type")) (eiOutOfRangeOutOfRange : PySem.W.isClsIn K XOutOfRange = true) (esOutOfRangeOutOfRange : PySem.W.subIn K (.ref XOutOfRange) (.ref XOutOfRange) = some true) (eiOutOfRangeCodecError : PySem.W.isClsIn K XCodecError = true) (esOutOfRangeCodecError : PySem.W.subIn K (.ref XOutOfRange) (.ref XCodecError) = some true) (c1OutOfRange : PySem.W.findIn K (.ref XOutOfRange) "__getattribute__" = some (some (.builtin "BaseException.__getattribute__"))) (c2OutOfRange : PySem.W.findIn K (.ref XOutOfRange) "__getattr__" = some none) (c3OutOfRange : PySem.W.hasDictIn K XOutOfRange = true) (c4OutOfRange : PySem.W.findIn K (.ref XOutOfRange) "__class__" = some (some (.builtin "object.__class__"))) (c5OutOfRange : PySem.W.specialIn K (.builtin "object.__class__") "__get__" = some (some (.builtin "getset_descriptor.__get__"))) (c6OutOfRange : PySem.W.takesIn K (.builtin "object.__class__") = some true) (c7OutOfRange : PySem.W.mroIn K XOutOfRange (.type "object") = some true) :
    ∃ fd : FuncData, (∀ (s : Shared) (v : Value), BindsTo s fd ⟨[v], []⟩ [("script", v)]) ∧ ∀ base : Heap, K.In base → base.Ns mainGlobals mg → FnG l.prog w K mg base CX0 8 fa fd ["script"] (spL K) := by
  have e := hfa.symm.trans (PySem.W.mg_of X G a14)
  cases e
  have T : Txt K mg ⟨XCodecError, XOutOfRange, fa⟩ := ⟨PySem.W.mg_none_of X G z0, PySem.W.mg_none_of X G z1, PySem.W.mg_none_of X G z2, PySem.W.mg_none_of X G z3, PySem.W.mg_none_of X G z4, ⟨_, PySem.W.mg_of X G z5, ⟨_, rfl⟩⟩, ⟨_, PySem.W.mg_of X G z6, ⟨_, rfl⟩⟩, ⟨_, PySem.W.mg_of X G z7, ⟨_, rfl⟩⟩, ⟨_, PySem.W.mg_of X G z8, ⟨_, rfl⟩⟩, PySem.W.mg_none_of X G z9, PySem.W.mg_none_of X G z10, PySem.W.mg_none_of X G z11, PySem.W.mg_of X G vOutOfRange, exOutOfRange, ekOutOfRange, ebOutOfRange, etOutOfRange, PySem.W.mg_of X G vCodecError, exCodecError, ekCodecError, ebCodecError, etCodecError, exm_mk ebOutOfRange eiOutOfRangeOutOfRange etOutOfRange esOutOfRangeOutOfRange, kit_mk eiOutOfRangeCodecError etCodecError esOutOfRangeCodecError, ⟨c1OutOfRange, c2OutOfRange, ebOutOfRange, c3OutOfRange, c4OutOfRange, c5OutOfRange, c6OutOfRange, c7OutOfRange⟩⟩
  have F0 : FunD K "_law_draws" "_law_draws" (defArgs s__law_draws) (defBody s__law_draws) (defScope s__law_draws) [] [] f0 _ := ⟨⟨_, _, _, _, _, _, _, _, _, _, rfl, l0, c0, .inl ⟨rfl, rfl⟩, .inl rfl⟩, k0⟩
  have D_0 : DefX K mg "_law_draws" s__law_draws ["cell", "limits"] pats__law_draws := ⟨_, _, _, _, F0, PySem.W.mg_of X G a0, (all_consQ (Bnd.all fun us ws vs zs l1 l2 r rz => by
      obtain ⟨u0, u1, rfl⟩ := len2 (r.length.symm.trans l1)
      obtain rfl := len0 (rz.length.symm.trans l2)
      cases r with | cons r0 r =>
        cases r with | cons r1 r =>
          cases r
          cases rz
          exact ⟨[u0, u1], rfl, (.cons r0 (.cons r1 .nil))⟩) all_nilQ)⟩
  have F1 : FunD K "_law_cell" "_law_cell" (defArgs s__law_cell) (defBody s__law_cell) (defScope s__law_cell) [] [] f1 _ := ⟨⟨_, _, _, _, _, _, _, _, _, _, rfl, l1, c1, .inl ⟨rfl, rfl⟩, .inl rfl⟩, k1⟩
  have D_1 : DefX K mg "_law_cell" s__law_cell ["script", "k"] pats__law_cell := ⟨_, _, _, _, F1, PySem.W.mg_of X G a1, (all_consQ (Bnd.all fun us ws vs zs l1 l2 r rz => by
      obtain ⟨u0, u1, rfl⟩ := len2 (r.length.symm.trans l1)
      obtain rfl := len0 (rz.length.symm.trans l2)
      cases r with | cons r0 r =>
        cases r with | cons r1 r =>
          cases r
          cases rz
          exact ⟨[u0, u1], rfl, (.cons r0 (.cons r1 .nil))⟩) all_nilQ)⟩
  have F2 : FunD K "_law_some" "_law_some" (defArgs s__law_some) (defBody s__law_some) (defScope s__law_some) [] [] f2 _ := ⟨⟨_, _, _, _, _, _, _, _, _, _, rfl, l2, c2, .inl ⟨rfl, rfl⟩, .inl rfl⟩, k2⟩
  have D_2 : DefX K mg "_law_some" s__law_some ["cell", "size"] pats__law_some := ⟨_, _, _, _, F2, PySem.W.mg_of X G a2, (all_consQ (Bnd.all fun us ws vs zs l1 l2 r rz => by
      obtain ⟨u0, u1, rfl⟩ := len2 (r.length.symm.trans l1)
      obtain rfl := len0 (rz.length.symm.trans l2)
      cases r with | cons r0 r =>
        cases r with | cons r1 r =>
          cases r
          cases rz
          exact ⟨[u0, u1], rfl, (.cons r0 (.cons r1 .nil))⟩) all_nilQ)⟩
  have F3 : FunD K "_law_units" "_law_units" (defArgs s__law_units) (defBody s__law_units) (defScope s__law_units) [] [] f3 _ := ⟨⟨_, _, _, _, _, _, _, _, _, _, rfl, l3, c3, .inl ⟨rfl, rfl⟩, .inl rfl⟩, k3⟩
  have D_3 : DefX K mg "_law_units" s__law_units ["script"] pats__law_units := ⟨_, _, _, _, F3, PySem.W.mg_of X G a3, (all_consQ (Bnd.all fun us ws vs zs l1 l2 r rz => by
      obtain ⟨u0, rfl⟩ := len1 (r.length.symm.trans l1)
      obtain rfl := len0 (rz.length.symm.trans l2)
      cases r with | cons r0 r =>
        cases r
        cases rz
        exact ⟨[u0], rfl, (.cons r0 .nil)⟩) all_nilQ)⟩
  have F4 : FunD K "escape" "escape" (defArgs s_escape) (defBody s_escape) (defScope s_escape) [] [] f4 _ := ⟨⟨_, _, _, _, _, _, _, _, _, _, rfl, l4, c4, .inl ⟨rfl, rfl⟩, .inl rfl⟩, k4⟩
  have D_4 : DefX K mg "escape" s_escape ["octets"] pats_escape := ⟨_, _, _, _, F4, PySem.W.mg_of X G a4, (all_consQ (Bnd.all fun us ws vs zs l1 l2 r rz => by
      obtain ⟨u0, rfl⟩ := len1 (r.length.symm.trans l1)
      obtain rfl := len0 (rz.length.symm.trans l2)
      cases r with | cons r0 r =>
        cases r
        cases rz
        exact ⟨[u0], rfl, (.cons r0 .nil)⟩) all_nilQ)⟩
  have F5 : FunD K "write_unit" "write_unit" (defArgs s_write_unit) (defBody s_write_unit) (defScope s_write_unit) [] [] f5 _ := ⟨⟨_, _, _, _, _, _, _, _, _, _, rfl, l5, c5, .inl ⟨rfl, rfl⟩, .inl rfl⟩, k5⟩
  have D_5 : DefX K mg "write_unit" s_write_unit ["kind", "payload"] pats_write_unit := ⟨_, _, _, _, F5, PySem.W.mg_of X G a5, (all_consQ (Bnd.all fun us ws vs zs l1 l2 r rz => by
      obtain ⟨u0, u1, rfl⟩ := len2 (r.length.symm.trans l1)
      obtain rfl := len0 (rz.length.symm.trans l2)
      cases r with | cons r0 r =>
        cases r with | cons r1 r =>
          cases r
          cases rz
          exact ⟨[u0, u1], rfl, (.cons r0 (.cons r1 .nil))⟩) all_nilQ)⟩
  have F6 : FunD K "write_units" "write_units" (defArgs s_write_units) (defBody s_write_units) (defScope s_write_units) [] [] f6 _ := ⟨⟨_, _, _, _, _, _, _, _, _, _, rfl, l6, c6, .inl ⟨rfl, rfl⟩, .inl rfl⟩, k6⟩
  have D_6 : DefX K mg "write_units" s_write_units ["units"] pats_write_units := ⟨_, _, _, _, F6, PySem.W.mg_of X G a6, (all_consQ (Bnd.all fun us ws vs zs l1 l2 r rz => by
      obtain ⟨u0, rfl⟩ := len1 (r.length.symm.trans l1)
      obtain rfl := len0 (rz.length.symm.trans l2)
      cases r with | cons r0 r =>
        cases r
        cases rz
        exact ⟨[u0], rfl, (.cons r0 .nil)⟩) all_nilQ)⟩
  have F7 : FunD K "_law_refused" "_law_refused" (defArgs s__law_refused) (defBody s__law_refused) (defScope s__law_refused) [] [] f7 _ := ⟨⟨_, _, _, _, _, _, _, _, _, _, rfl, l7, c7, .inl ⟨rfl, rfl⟩, .inl rfl⟩, k7⟩
  have D_7 : DefX K mg "_law_refused" s__law_refused ["kind", "payload", "units"] pats__law_refused := ⟨_, _, _, _, F7, PySem.W.mg_of X G a7, (all_consQ (Bnd.all fun us ws vs zs l1 l2 r rz => by
      obtain ⟨u0, u1, u2, rfl⟩ := len3 (r.length.symm.trans l1)
      obtain rfl := len0 (rz.length.symm.trans l2)
      cases r with | cons r0 r =>
        cases r with | cons r1 r =>
          cases r with | cons r2 r =>
            cases r
            cases rz
            exact ⟨[u0, u1, u2], rfl, (.cons r0 (.cons r1 (.cons r2 .nil)))⟩) all_nilQ)⟩
  have F8 : FunD K "_starts" "_starts" (defArgs s__starts) (defBody s__starts) (defScope s__starts) [] [] f8 _ := ⟨⟨_, _, _, _, _, _, _, _, _, _, rfl, l8, c8, .inl ⟨rfl, rfl⟩, .inl rfl⟩, k8⟩
  have D_8 : DefX K mg "_starts" s__starts ["octets"] pats__starts := ⟨_, _, _, _, F8, PySem.W.mg_of X G a8, (all_consQ (Bnd.all fun us ws vs zs l1 l2 r rz => by
      obtain ⟨u0, rfl⟩ := len1 (r.length.symm.trans l1)
      obtain rfl := len0 (rz.length.symm.trans l2)
      cases r with | cons r0 r =>
        cases r
        cases rz
        exact ⟨[u0], rfl, (.cons r0 .nil)⟩) all_nilQ)⟩
  have F9 : FunD K "unescape" "unescape" (defArgs s_unescape) (defBody s_unescape) (defScope s_unescape) [] [] f9 _ := ⟨⟨_, _, _, _, _, _, _, _, _, _, rfl, l9, c9, .inl ⟨rfl, rfl⟩, .inl rfl⟩, k9⟩
  have D_9 : DefX K mg "unescape" s_unescape ["octets"] pats_unescape := ⟨_, _, _, _, F9, PySem.W.mg_of X G a9, (all_consQ (Bnd.all fun us ws vs zs l1 l2 r rz => by
      obtain ⟨u0, rfl⟩ := len1 (r.length.symm.trans l1)
      obtain rfl := len0 (rz.length.symm.trans l2)
      cases r with | cons r0 r =>
        cases r
        cases rz
        exact ⟨[u0], rfl, (.cons r0 .nil)⟩) all_nilQ)⟩
  have F10 : FunD K "_read_raw" "_read_raw" (defArgs s__read_raw) (defBody s__read_raw) (defScope s__read_raw) [] [] f10 _ := ⟨⟨_, _, _, _, _, _, _, _, _, _, rfl, l10, c10, .inl ⟨rfl, rfl⟩, .inl rfl⟩, k10⟩
  have D_10 : DefX K mg "_read_raw" s__read_raw ["raw"] pats__read_raw := ⟨_, _, _, _, F10, PySem.W.mg_of X G a10, (all_consQ (Bnd.all fun us ws vs zs l1 l2 r rz => by
      obtain ⟨u0, rfl⟩ := len1 (r.length.symm.trans l1)
      obtain rfl := len0 (rz.length.symm.trans l2)
      cases r with | cons r0 r =>
        cases r
        cases rz
        exact ⟨[u0], rfl, (.cons r0 .nil)⟩) all_nilQ)⟩
  have F11 : FunD K "read_units" "read_units" (defArgs s_read_units) (defBody s_read_units) (defScope s_read_units) [] [] f11 _ := ⟨⟨_, _, _, _, _, _, _, _, _, _, rfl, l11, c11, .inl ⟨rfl, rfl⟩, .inl rfl⟩, k11⟩
  have D_11 : DefX K mg "read_units" s_read_units ["octets"] pats_read_units := ⟨_, _, _, _, F11, PySem.W.mg_of X G a11, (all_consQ (Bnd.all fun us ws vs zs l1 l2 r rz => by
      obtain ⟨u0, rfl⟩ := len1 (r.length.symm.trans l1)
      obtain rfl := len0 (rz.length.symm.trans l2)
      cases r with | cons r0 r =>
        cases r
        cases rz
        exact ⟨[u0], rfl, (.cons r0 .nil)⟩) all_nilQ)⟩
  have F12 : FunD K "_law_large" "_law_large" (defArgs s__law_large) (defBody s__law_large) (defScope s__law_large) [] [] f12 _ := ⟨⟨_, _, _, _, _, _, _, _, _, _, rfl, l12, c12, .inl ⟨rfl, rfl⟩, .inl rfl⟩, k12⟩
  have D_12 : DefX K mg "_law_large" s__law_large ["cell"] pats__law_large := ⟨_, _, _, _, F12, PySem.W.mg_of X G a12, (all_consQ (Bnd.all fun us ws vs zs l1 l2 r rz => by
      obtain ⟨u0, rfl⟩ := len1 (r.length.symm.trans l1)
      obtain rfl := len0 (rz.length.symm.trans l2)
      cases r with | cons r0 r =>
        cases r
        cases rz
        exact ⟨[u0], rfl, (.cons r0 .nil)⟩) all_nilQ)⟩
  have F13 : FunD K "_law_escape" "_law_escape" (defArgs s__law_escape) (defBody s__law_escape) (defScope s__law_escape) [] [] f13 _ := ⟨⟨_, _, _, _, _, _, _, _, _, _, rfl, l13, c13, .inl ⟨rfl, rfl⟩, .inl rfl⟩, k13⟩
  have D_13 : DefX K mg "_law_escape" s__law_escape ["octets"] pats__law_escape := ⟨_, _, _, _, F13, PySem.W.mg_of X G a13, (all_consQ (Bnd.all fun us ws vs zs l1 l2 r rz => by
      obtain ⟨u0, rfl⟩ := len1 (r.length.symm.trans l1)
      obtain rfl := len0 (rz.length.symm.trans l2)
      cases r with | cons r0 r =>
        cases r
        cases rz
        exact ⟨[u0], rfl, (.cons r0 .nil)⟩) all_nilQ)⟩
  have F14 : FunD K "law" "law" (defArgs s_law) (defBody s_law) (defScope s_law) [] [] _ _ := ⟨⟨_, _, _, _, _, _, _, _, _, _, rfl, l14, c14, .inl ⟨rfl, rfl⟩, .inl rfl⟩, k14⟩
  have R__law_draws : ∀ base : Heap, CalX l.prog w K mg base 1 "_law_draws" (sp__law_draws K ⟨XCodecError, XOutOfRange, fa⟩) pats__law_draws := fun base => ok__law_draws D_0 T 
  have R__law_cell : ∀ base : Heap, CalX l.prog w K mg base 1 "_law_cell" (sp__law_cell K ⟨XCodecError, XOutOfRange, fa⟩) pats__law_cell := fun base => ok__law_cell D_1 T 
  have R__law_some : ∀ base : Heap, CalX l.prog w K mg base 2 "_law_some" (sp__law_some K ⟨XCodecError, XOutOfRange, fa⟩) pats__law_some := fun base => ok__law_some D_2 T (R__law_draws base)
  have R__law_units : ∀ base : Heap, CalX l.prog w K mg base 3 "_law_units" (sp__law_units K ⟨XCodecError, XOutOfRange, fa⟩) pats__law_units := fun base => ok__law_units D_3 T (R__law_draws base) (R__law_cell base) (R__law_some base)
  have R_escape : ∀ base : Heap, CalX l.prog w K mg base 1 "escape" (sp_escape K ⟨XCodecError, XOutOfRange, fa⟩) pats_escape := fun base => ok_escape D_4 T 
  have R_write_unit : ∀ base : Heap, CalX l.prog w K mg base 2 "write_unit" (sp_write_unit K ⟨XCodecError, XOutOfRange, fa⟩) pats_write_unit := fun base => ok_write_unit D_5 T (R_escape base)
  have R_write_units : ∀ base : Heap, CalX l.prog w K mg base 3 "write_units" (sp_write_units K ⟨XCodecError, XOutOfRange, fa⟩) pats_write_units := fun base => ok_write_units D_6 T (R_write_unit base)
  have R__law_refused : ∀ base : Heap, CalX l.prog w K mg base 4 "_law_refused" (sp__law_refused K ⟨XCodecError, XOutOfRange, fa⟩) pats__law_refused := fun base => ok__law_refused D_7 T (R_write_unit base) (R_write_units base)
  have R__starts : ∀ base : Heap, CalX l.prog w K mg base 1 "_starts" (sp__starts K ⟨XCodecError, XOutOfRange, fa⟩) pats__starts := fun base => ok__starts D_8 T 
  have R_unescape : ∀ base : Heap, CalX l.prog w K mg base 1 "unescape" (sp_unescape K ⟨XCodecError, XOutOfRange, fa⟩) pats_unescape := fun base => ok_unescape D_9 T 
  have R__read_raw : ∀ base : Heap, CalX l.prog w K mg base 2 "_read_raw" (sp__read_raw K ⟨XCodecError, XOutOfRange, fa⟩) pats__read_raw := fun base => ok__read_raw D_10 T (R_unescape base)
  have R_read_units : ∀ base : Heap, Vy.CalG l.prog w K mg base 3 "read_units" (sg_read_units K ⟨XCodecError, XOutOfRange, fa⟩) pats_read_units := fun base => ok_read_units D_11 T (R__starts base) (R__read_raw base)
  have R__law_large : ∀ base : Heap, CalX l.prog w K mg base 7 "_law_large" (sp__law_large K ⟨XCodecError, XOutOfRange, fa⟩) pats__law_large := fun base => ok__law_large D_12 T (R_write_unit base) (R_read_units base) (R__law_refused base)
  have R__law_escape : ∀ base : Heap, CalX l.prog w K mg base 1 "_law_escape" (sp__law_escape K ⟨XCodecError, XOutOfRange, fa⟩) pats__law_escape := fun base => ok__law_escape D_13 T 

  refine ⟨PySem.W.fnOf "law" "law" (defArgs s_law) (defBody s_law) (defScope s_law) .none kV14 dc14 pm14 an14 cd14 ct14, fun s v => .of_eq rfl, fun base _ _ => (ok_law (AD := ⟨XCodecError, XOutOfRange, fa⟩) F14 T (R__law_units base) (R__law_escape base) (R_write_units base) (R_read_units base) (R_write_unit base) (R__law_draws base) (R__law_cell base) (R__law_large base) (R__law_refused base) (R__law_some base)).imp ?_⟩
  rintro vs H Q E ⟨a, xs, rfl, hs, hl, q⟩
  exact ⟨a, xs, rfl, hs, by rw [law_true xs hl]; exact cW_mk rfl, q⟩
end Vx
open PySem PySem.W PyProof.Rows
set_option maxRecDepth 100000 in
set_option maxHeartbeats 0 in
theorem PySem.Challenge.cw_thaumatrope_k09_units_written_and_read_holds : PySem.Challenge.rw_thaumatrope_k09_units_written_and_read.Holds := by
  w_on; o_law; k_head; (case hw => w_witness2)
  k_fill
  refine Vx.walkG (l := PySem.Challenge.rw_thaumatrope_k09_units_written_and_read) (n := 63) (k := 8) (x := "script") rfl (by decide) rfl ⟨rfl, by decide, by decide⟩ (fun w h Y => PySem.W.kIn_of Y) ?F
  case F =>
    intro w mg fa h KX G hmg
    refine' Vx.all_mk KX G hmg ?vCodecError ?vOutOfRange ?a0 ?l0 ?c0 ?k0 ?a1 ?l1 ?c1 ?k1 ?a2 ?l2 ?c2 ?k2 ?a3 ?l3 ?c3 ?k3 ?a4 ?l4 ?c4 ?k4 ?a5 ?l5 ?c5 ?k5 ?a6 ?l6 ?c6 ?k6 ?a7 ?l7 ?c7 ?k7 ?a8 ?l8 ?c8 ?k8 ?a9 ?l9 ?c9 ?k9 ?a10 ?l10 ?c10 ?k10 ?a11 ?l11 ?c11 ?k11 ?a12 ?l12 ?c12 ?k12 ?a13 ?l13 ?c13 ?k13 ?a14 ?l14 ?c14 ?k14 ?z0 ?z1 ?z2 ?z3 ?z4 ?z5 ?z6 ?z7 ?z8 ?z9 ?z10 ?z11 ?exOutOfRange ?ekOutOfRange ?ebOutOfRange ?etOutOfRange ?exCodecError ?ekCodecError ?ebCodecError ?etCodecError ?eiOutOfRangeOutOfRange ?esOutOfRangeOutOfRange ?eiOutOfRangeCodecError ?esOutOfRangeCodecError ?c1OutOfRange ?c2OutOfRange ?c3OutOfRange ?c4OutOfRange ?c5OutOfRange ?c6OutOfRange ?c7OutOfRange
    (case vCodecError => k_is)
    (case vOutOfRange => k_is)
    (case a0 => k_is)
    (case l0 => k_is)
    (case c0 => k_is)
    (case k0 => k_is)
    (case a1 => k_is)
    (case l1 => k_is)
    (case c1 => k_is)
    (case k1 => k_is)
    (case a2 => k_is)
    (case l2 => k_is)
    (case c2 => k_is)
    (case k2 => k_is)
    (case a3 => k_is)
    (case l3 => k_is)
    (case c3 => k_is)
    (case k3 => k_is)
    (case a4 => k_is)
    (case l4 => k_is)
    (case c4 => k_is)
    (case k4 => k_is)
    (case a5 => k_is)
    (case l5 => k_is)
    (case c5 => k_is)
    (case k5 => k_is)
    (case a6 => k_is)
    (case l6 => k_is)
    (case c6 => k_is)
    (case k6 => k_is)
    (case a7 => k_is)
    (case l7 => k_is)
    (case c7 => k_is)
    (case k7 => k_is)
    (case a8 => k_is)
    (case l8 => k_is)
    (case c8 => k_is)
    (case k8 => k_is)
    (case a9 => k_is)
    (case l9 => k_is)
    (case c9 => k_is)
    (case k9 => k_is)
    (case a10 => k_is)
    (case l10 => k_is)
    (case c10 => k_is)
    (case k10 => k_is)
    (case a11 => k_is)
    (case l11 => k_is)
    (case c11 => k_is)
    (case k11 => k_is)
    (case a12 => k_is)
    (case l12 => k_is)
    (case c12 => k_is)
    (case k12 => k_is)
    (case a13 => k_is)
    (case l13 => k_is)
    (case c13 => k_is)
    (case k13 => k_is)
    (case a14 => k_is)
    (case l14 => k_is)
    (case c14 => k_is)
    (case k14 => k_is)
    (case z0 => k_is)
    (case z1 => k_is)
    (case z2 => k_is)
    (case z3 => k_is)
    (case z4 => k_is)
    (case z5 => k_is)
    (case z6 => k_is)
    (case z7 => k_is)
    (case z8 => k_is)
    (case z9 => k_is)
    (case z10 => k_is)
    (case z11 => k_is)
    (case exOutOfRange => k_exc)
    (case ekOutOfRange => k_is)
    (case ebOutOfRange => k_is)
    (case etOutOfRange => k_is)
    (case exCodecError => k_exc)
    (case ekCodecError => k_is)
    (case ebCodecError => k_is)
    (case etCodecError => k_is)
    (case eiOutOfRangeOutOfRange => k_is)
    (case esOutOfRangeOutOfRange => first | rfl | k_is)
    (case eiOutOfRangeCodecError => k_is)
    (case esOutOfRangeCodecError => first | rfl | k_is)
    (case c1OutOfRange => k_is)
    (case c2OutOfRange => k_is)
    (case c3OutOfRange => k_is)
    (case c4OutOfRange => k_is)
    (case c5OutOfRange => k_is)
    (case c6OutOfRange => k_is)
    (case c7OutOfRange => k_is)
