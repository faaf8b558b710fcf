import PyProof.Rows.All
import Wide.All
import OpenK.AllK
import Wide.FinOn
import HandS.ForMost
import HandS.Codes
import HandS.Steps
import HandS.IsInst
import HandS.Property
import HandS.Wide
import HandS.WideBits
import HandS.Exc
import HandS.Defaults
import HandS.ExcOwn
import HandS.TryOnly
import HandS.WordsExc
import HandS.ExcIs
import HandS.MakeKwOnly
import HandS.RaiseMore
import HandS.Style
import HandS.Zip
import HandS.Iter
import HandS.Walk
import HandS.More
import HandS.SetFor
import HandS.Strs
import HandS.SortInts
import HandS.Head0
import HandS.Head1
import HandS.Head2
import HandS.HeadEnd
import HandS.HeadHook1
import HandS.HeadHook2
import HandS.HeadHook3
import HandS.HeadNt
import KE.KStateDown
import PySem.Challenge.RW_thaumatrope_k59_references_of_pictures
set_option Elab.async false
set_option linter.all false
set_option maxRecDepth 100000
set_option maxHeartbeats 8000000
namespace Vx
open PySem PySem.Spec PyProof.Rows L2

/-! ### heaps -/
def SameX (m : Addr) (H H' : Hp) : Prop := ∀ b o, H b = some o → b ≠ m → H' b = some o
theorem gen_new {H H' : Hp} {p : Addr} {o : HO} (n : H p = none) (h : upd H p o = H') : Same H H' ∧ H' p = some o := by
  subst h
  exact ⟨fun b u e => by rw [upd_ne (ne_of_none e n)]; exact e, upd_same⟩
theorem gen_mut {H H' : Hp} {m : Addr} {o : HO} (h : upd H m o = H') : SameX m H H' ∧ H' m = some o := by
  subst h
  exact ⟨fun b u e n => by rw [upd_ne n]; exact e, upd_same⟩
theorem same_mut {H0 H H' : Hp} {m : Addr} (B : Same H0 H) (x : SameX m H H') (f : H0 m = none) : Same H0 H' :=
  fun b o e => x b o (B b o e) (ne_of_none e f)
theorem map_get {xs : List Int} {i : Nat} {x : V} (h : (xs.map V.int)[i]? = some x) : ∃ o, xs[i]? = some o ∧ x = .int o := by
  rw [List.getElem?_map] at h
  cases e : xs[i]? with
  | none => rw [e] at h; cases h
  | some z => rw [e] at h; exact ⟨z, rfl, (Option.some.inj h).symm⟩
theorem get_len {α : Type} {xs : List α} {i : Nat} {x : α} (h : xs[i]? = some x) : i < xs.length := (List.getElem?_eq_some_iff.mp h).1
theorem eq_int {Q : VK} {H : Hp} {a b : Int} (h : Q (.int a) H) (e : a = b) : Q (.int b) H := e ▸ h
theorem eq_bl {Q : VK} {H : Hp} {a b : Bool} (h : Q (.bl a) H) (e : a = b) : Q (.bl b) H := e ▸ h
theorem small {n : Nat} (h : n ≤ 1000000) : n < sizeLine := Nat.lt_of_le_of_lt h (by decide)
theorem smallE {n : Nat} (h : n ≤ 1000000) : n ≤ sizeLine := Nat.le_of_lt (small h)
theorem snoc_int {xs : List Int} {y : Int} {H : Hp} {p : Addr} (h : H p = some (.lst (xs.map V.int ++ [V.int y]))) : H p = some (.lst ((xs ++ [y]).map V.int)) := by
  rw [List.map_append]; exact h
theorem cat_int {xs ys : List Int} {H : Hp} {p : Addr} (h : H p = some (.lst (xs.map V.int ++ ys.map V.int))) : H p = some (.lst ((xs ++ ys).map V.int)) := by
  rw [List.map_append]; exact h
theorem cast_lst {xs ys : List Int} {H : Hp} {p : Addr} (h : H p = some (.lst (xs.map V.int))) (e : xs = ys) : H p = some (.lst (ys.map V.int)) := e ▸ h

/-! ### tests -/
theorem dT {p : Prop} [Decidable p] (h : decide p = true) : p := of_decide_eq_true h
theorem dF {p : Prop} [Decidable p] (h : ¬ decide p = true) : ¬ p := fun x => h (decide_eq_true x)
theorem iteD {p A B : Prop} [Decidable p] (h1 : p → A) (h2 : ¬ p → B) : if decide p = true then A else B := by
  by_cases h : p
  · rw [if_pos (decide_eq_true h)]; exact h1 h
  · rw [if_neg (fun x => h (of_decide_eq_true x))]; exact h2 h
theorem iteN {p A B : Prop} [Decidable p] (h1 : ¬ p → A) (h2 : p → B) : if (!decide p) = true then A else B := by
  by_cases h : p
  · rw [decide_eq_true h]; exact iteF (h2 h)
  · rw [decide_eq_false h]; exact iteT (h1 h)
theorem iteB {b : Bool} {A B : Prop} (h1 : b = true → A) (h2 : b = false → B) : if b = true then A else B := by
  cases b with
  | true => exact iteT (h1 rfl)
  | false => exact iteF (h2 rfl)
theorem iteBN {b : Bool} {A B : Prop} (h1 : b = false → A) (h2 : b = true → B) : if (!b) = true then A else B := by
  cases b with
  | true => exact iteF (h2 rfl)
  | false => exact iteT (h1 rfl)
theorem iteDT {p A B : Prop} [Decidable p] (h : p) (k : A) : if decide p = true then A else B := by
  rw [if_pos (decide_eq_true h)]; exact k
theorem iteDF {p A B : Prop} [Decidable p] (h : ¬ p) (k : B) : if decide p = true then A else B := by
  rw [if_neg (fun x => h (of_decide_eq_true x))]; exact k
theorem iteNT {p A B : Prop} [Decidable p] (h : ¬ p) (k : A) : if (!decide p) = true then A else B := iteN (fun _ => k) (fun x => (h x).elim)
theorem iteNF {p A B : Prop} [Decidable p] (h : p) (k : B) : if (!decide p) = true then A else B := iteN (fun x => (x h).elim) (fun _ => k)

/-! ### equality of lists of ints -/
theorem eqvAll_ints : ∀ xs ys : List Int, PyData.eqvAll (xs.map PyData.int) (ys.map PyData.int) = decide (xs = ys)
  | [], [] => by simp [PyData.eqvAll]
  | [], y :: ys => by simp [PyData.eqvAll]
  | x :: xs, [] => by simp [PyData.eqvAll]
  | x :: xs, y :: ys => by
    have ih := eqvAll_ints xs ys
    simp only [List.map_cons, PyData.eqvAll, PyData.eqv, ih]
    by_cases h : x = y <;> by_cases h2 : xs = ys <;> simp [h, h2]
end Vx

namespace Vx
open PySem PySem.Spec PyProof.Rows L2
section
variable {X : Cx}
def rEqLi (K : PySem.W.Frag) : R2 := fun x y H Q => ∃ (a b : Addr) (xs ys : List Int), x = .ref a ∧ y = .ref b ∧ SqL K H a (xs.map V.int) ∧ SqL K H b (ys.map V.int) ∧ Q (.bl (decide (xs = ys))) H
def rNeLi (K : PySem.W.Frag) : R2 := fun x y H Q => ∃ (a b : Addr) (xs ys : List Int), x = .ref a ∧ y = .ref b ∧ SqL K H a (xs.map V.int) ∧ SqL K H b (ys.map V.int) ∧ Q (.bl (!decide (xs = ys))) H
theorem dpAll_ints {K : PySem.W.Frag} {H : Hp} : ∀ xs : List Int, DpAll K H (xs.map V.int) (xs.map PyData.int)
  | [] => .nil
  | x :: xs => .cons (.int x) (dpAll_ints xs)
theorem dp_ints {K : PySem.W.Frag} {H : Hp} {a : Addr} {xs : List Int} (h : SqL K H a (xs.map V.int)) : Dp K H (.ref a) (.list (xs.map PyData.int)) := .lst h (dpAll_ints xs)
theorem canLay_ints : ∀ xs : List Int, PyData.canLayAll0 (xs.map PyData.int) = true
  | [] => by simp [PyData.canLayAll0]
  | x :: xs => by simp [PyData.canLayAll0, PyData.canLay0, canLay_ints xs]
theorem depth_ints : ∀ xs : List Int, PyData.depthAll (xs.map PyData.int) = 0
  | [] => by simp [PyData.depthAll]
  | x :: xs => by simp [PyData.depthAll, PyData.depth, depth_ints xs]
theorem shaped_ints (xs : List Int) : SeqAt.shaped (.list (xs.map PyData.int)) = true := by
  unfold SeqAt.shaped
  simp [PyData.canLay0, canLay_ints, PyData.depth, depth_ints]
theorem eqv_ints (xs ys : List Int) : PyData.eqv (.list (xs.map PyData.int)) (.list (ys.map PyData.int)) = decide (xs = ys) := by
  simp only [PyData.eqv]
  exact eqvAll_ints xs ys
theorem op_eqLi (hu : X.A.units + 64 < cLine) : OpR X (compareOp .Eq) (rEqLi X.K) := by
  intro pins s σ H x y v u Q I rx ry h
  obtain ⟨a, b, xs, ys, rfl, rfl, h1, h2, q⟩ := h
  exact op_eqD hu pins s σ H _ _ v u Q I rx ry ⟨_, _, dp_ints h1, dp_ints h2, shaped_ints xs, shaped_ints ys, by rw [eqv_ints]; exact q⟩
theorem op_neLi (hu : X.A.units + 64 < cLine) : OpR X (compareOp .NotEq) (rNeLi X.K) := by
  intro pins s σ H x y v u Q I rx ry h
  obtain ⟨a, b, xs, ys, rfl, rfl, h1, h2, q⟩ := h
  exact op_neD hu pins s σ H _ _ v u Q I rx ry ⟨_, _, dp_ints h1, dp_ints h2, shaped_ints xs, shaped_ints ys, by rw [eqv_ints]; exact q⟩

/-! ### items, slices, repetition, comprehensions of ints -/
def itI (xs : List Int) (i : Int) : Int := (atI xs i).getD 0
theorem atI_int {xs : List Int} {i : Int} (h : -(xs.length : Int) ≤ i ∧ i < xs.length) : atI (xs.map V.int) i = some (.int (itI xs i)) := by
  unfold itI atI
  rw [List.length_map]
  have hk : ∃ j, ixN xs.length i = some j ∧ j < xs.length := by
    unfold ixN
    by_cases h0 : 0 ≤ i
    · refine ⟨i.toNat, ?_, by omega⟩
      rw [if_pos h0, if_pos h.2]
    · refine ⟨(i + xs.length).toNat, ?_, by omega⟩
      rw [if_neg h0, if_pos h.1]
  obtain ⟨j, e, hj⟩ := hk
  rw [e]
  show (xs.map V.int)[j]? = some (V.int ((xs[j]?).getD 0))
  rw [List.getElem?_map, List.getElem?_eq_getElem hj] <;> rfl
def cutI (xs : List Int) (lo hi : Option Int) : List Int := (xs.drop (HT.sIx xs.length 0 lo)).take (HT.sIx xs.length xs.length hi - HT.sIx xs.length 0 lo)
theorem cut_int {xs : List Int} {lo hi : Option Int} {H : Hp} {p : Addr} (h : H p = some (.lst (cutV (xs.map V.int) lo hi))) : H p = some (.lst ((cutI xs lo hi).map V.int)) := by
  rw [h]
  unfold cutV cutI
  rw [List.length_map, List.map_take, List.map_drop]
def rep (xs : List Int) (k : Int) : List Int := (List.replicate k.toNat xs).flatten
theorem rep_int {xs : List Int} {k : Int} {H : Hp} {p : Addr} (h : H p = some (.lst (List.replicate k.toNat (xs.map V.int)).flatten)) : H p = some (.lst ((rep xs k).map V.int)) := by
  rw [h]
  unfold rep
  rw [List.map_flatten, List.map_replicate]
theorem divW_lit {i j : Int} (h : 0 < j) (h2 : j.natAbs.log2 < 9000) : CDivW i j := ⟨h, h2⟩
theorem divW_small {i j : Int} (h : 0 < j) (h2 : j < 2 ^ 128) : CDivW i j := wide_div h (show j.natAbs < 2 ^ 128 by omega) (by decide) (by decide)
theorem comp_list {xs : List Int} {i : Nat} {x y : Int} {f : Int → Int} {H : Hp} {D : Addr} (hi : xs[i]? = some x) (h : H D = some (.lst (((xs.take i).map f).map V.int ++ [V.int y]))) (e : f x = y) : H D = some (.lst (((xs.take (i + 1)).map f).map V.int)) := by
  rw [h, ← e, List.take_succ, hi, List.map_append, List.map_append] <;> rfl
theorem comp_done {xs : List Int} {f : Int → Int} {H : Hp} {D : Addr} (h : H D = some (.lst (((xs.take (xs.map V.int).length).map f).map V.int))) : H D = some (.lst ((xs.map f).map V.int)) := by
  rw [List.length_map, List.take_length] at h
  exact h
theorem comp_range {i : Nat} {y : Int} {f : Nat → Int} {H : Hp} {D : Addr} (h : H D = some (.lst (((List.range i).map f).map V.int ++ [V.int y]))) (e : f i = y) : H D = some (.lst (((List.range (i + 1)).map f).map V.int)) := by
  rw [h, ← e, List.range_succ, List.map_append, List.map_append] <;> rfl
theorem iteBT {b : Bool} {A B : Prop} (h : b = true) (k : A) : if b = true then A else B := by rw [if_pos h]; exact k
theorem iteBF {b : Bool} {A B : Prop} (h : b = false) (k : B) : if b = true then A else B := by rw [if_neg (by rw [h]; decide)]; exact k
theorem take_succ_get {α : Type} {xs : List α} {i : Nat} {x : α} (hi : xs[i]? = some x) : xs.take (i + 1) = xs.take i ++ [x] := by rw [List.take_succ, hi] <;> rfl
end

/-! ### defs of the module, as callers see them -/
section
variable {P : Program} {w : World} {K : PySem.W.Frag} {mg : Str → Option Value} {base : Heap}
structure DefIn (K : PySem.W.Frag) (mg : Str → Option Value) (x : Str) (st : Stmt) (ps : List Str) : Prop where
  ex : ∃ (f : Addr) (fd : FuncData), Fun K x x st f fd ∧ mg x = some (.ref f) ∧ Binds K fd ps []
structure Cal (P : Program) (w : World) (K : PySem.W.Frag) (mg : Str → Option Value) (base : Heap) (k : Nat) (x : Str) (sp : Sp) : Prop where
  ex : ∃ (f : Addr) (fd : FuncData) (ps : List Str), FnOk P w K mg base CX0 k f fd ps sp ∧ mg x = some (.ref f) ∧ PySem.W.keepIn K (.ref f) = true ∧ Binds K fd ps []
theorem DefIn.ok {x : Str} {st : Stmt} {N ps : List Str} {k : Nat} {sp : Sp} (D : DefIn K mg x st ps) (S : FnScope N ps (defScope st)) (len : ∀ vs H Q E, sp vs H Q E → vs.length = ps.length)
    (hbody : ∀ (f : Addr) (cdv : Value) (A : Around) (outer : List Env) (s : Shared) (H : Hp) (vs : List V) (Q : VK) (E : XK), Room k (A.deeper (envOfC x (defScope st) s.heap.objs.size f cdv)) → sp vs H Q E →
      ∃ t, PSs (cxOf CX0 P w K mg base N x (defScope st) f cdv A outer s H E).nox (defBody st) t ∧ t { nx := fun _ H' => Q .non H', rt := Q } (start N vs) H) : Cal P w K mg base (k + 1) x sp := by
  obtain ⟨f, fd, F, hm, b⟩ := D.ex
  exact ⟨f, fd, ps, F.ok S len (fun cdv A outer s H vs Q E hr h => hbody f cdv A outer s H vs Q E hr h), hm, F.kp, b⟩
end
section
variable {X : Cx} {k j : Nat} {x : Str} {sp : Sp} {p pos : Pos} {e : Expr} {es : List Expr} {t : TA}
theorem vx_call (c : Cal X.prog X.w X.K X.mg X.base k x sp) (hr : Room j X.A) (hk : k ≤ j) (hg : Gl X x) (ha : PA X (e :: es) t)
    (hdb : (x == ("__debug__" : Str)) = false := by decide) (he : starEach (e :: es) X.env = (false, eval e X.env) :: starEach es X.env := by rfl) (hpl : (backTo pos (starEach es X.env)).any (·.1) = false := by rfl) :
    PE X (.Call (.Name x p) (e :: es) [] pos) (tCall sp [] E0 t) := by
  obtain ⟨f, fd, ps, F, hm, kp, b⟩ := c.ex
  exact pe_call F (hr.mono hk) hg hm kp b .nil pass0 ha hdb he hpl
end
end Vx

namespace Vx
open PySem PySem.Spec PyProof.Rows L2
section
variable {σ : L2.St} {H : Hp} {ta tb : TE} {x y z : V} {t : TT}
theorem vv_and {a b : Bool} (h1 : Val ta σ H (.bl a)) (h2 : Val tb σ H (.bl b)) : Val (tAndV ta tb) σ H (.bl (a && b)) := fun Q q => h1 _ ⟨a, rfl, by
  cases a with
  | true => exact iteT (h2 Q q)
  | false => exact iteF q⟩
theorem vv_or {a b : Bool} (h1 : Val ta σ H (.bl a)) (h2 : Val tb σ H (.bl b)) : Val (tOrV ta tb) σ H (.bl (a || b)) := fun Q q => h1 _ ⟨a, rfl, by
  cases a with
  | true => exact iteT q
  | false => exact iteF (h2 Q q)⟩
theorem vv_not {a : Bool} (h1 : Val ta σ H (.bl a)) : Val (tNotV ta) σ H (.bl (!a)) := fun Q q => h1 _ ⟨a, rfl, q⟩
theorem vv_un {r : V → Hp → VK → Prop} (ha : Val ta σ H x) (hr : ∀ Q : VK, Q z H → r x H Q) : Val (tUn r ta) σ H z := fun Q q => ha _ (hr Q q)
theorem vv_cmp {p : Int → Int → Bool} (ha : Val ta σ H x) (hb : Val tb σ H y) (hr : ∀ Q : VK, Q z H → ∃ i j, x = .int i ∧ y = .int j ∧ Q (.bl (p i j)) H) : Val (tCmp p ta tb) σ H z := fun Q q => ha _ (hb _ (hr Q q))
theorem vv_call1 {r : List V → Hp → VK → Prop} (ha : Val ta σ H x) (hr : ∀ Q : VK, Q z H → r [x] H Q) : Val (tCB r (tCons ta tNil)) σ H z := fun Q q => ha _ (hr Q q)
theorem vt_cmp {b : Bool} (h : Val ta σ H (.bl b)) : Ans (tB ta) σ H b := fun Q q => h _ ⟨b, rfl, q⟩
theorem vt_val {b : Bool} (h : Val ta σ H (.bl b)) : Ans (tB ta) σ H b := fun Q q => h _ ⟨b, rfl, q⟩
theorem vt_int {i : Int} {K : PySem.W.Frag} (h : Val ta σ H (.int i)) : Ans (fun σ H Q => ta σ H fun x H' => ∃ k, TruV K x H' k ∧ Q k H') σ H (i != 0) := fun Q q => h _ ⟨_, rfl, q⟩
theorem vv_if {p : Prop} [Decidable p] {a b : Int} (ht : Ans t σ H (decide p)) (hx : Val ta σ H (.int a)) (hy : Val tb σ H (.int b)) : Val (tIf t ta tb) σ H (.int (if p then a else b)) := fun Q q => ht _ (by
  by_cases h : p
  · rw [if_pos h] at q; exact iteDT h (hx Q q)
  · rw [if_neg h] at q; exact iteDF h (hy Q q))
theorem vv_ifb {c : Bool} {a b : Int} (ht : Ans t σ H c) (hx : Val ta σ H (.int a)) (hy : Val tb σ H (.int b)) : Val (tIf t ta tb) σ H (.int (if c = true then a else b)) := fun Q q => ht _ (by
  cases c with
  | true => exact iteT (hx Q q)
  | false => exact iteF (hy Q q))
end
end Vx

namespace Vx
open PySem PySem.Spec PyProof.Rows L2
def rLenLi (K : PySem.W.Frag) : List V → Hp → VK → Prop := fun xs H Q => ∃ (p : Addr) (ns : List Int), xs = [.ref p] ∧ SqL K H p (ns.map V.int) ∧ Q (.int (ns.length : Int)) H
theorem call_lenLi {X : Cx} : CallR X (.builtin "len") (rLenLi X.K) := by
  intro pins s σ H xs us Q I r h
  obtain ⟨p, ns, rfl, hs, q⟩ := h
  exact call_len_seq pins s σ H _ us Q I r ⟨p, _, rfl, Or.inl hs, by rw [List.length_map]; exact q⟩
end Vx

namespace Vx
open PySem PySem.Spec PyProof.Rows L2
section
variable {X : Cx} {K : PySem.W.Frag}
theorem ix_listK (hK : X.K = K := by rfl) : IxR X (rIxL K) := hK ▸ ix_list
theorem sl_listK (hK : X.K = K := by rfl) : SlR X (rSlL K) := hK ▸ sl_list
theorem call_lenLiK (hK : X.K = K := by rfl) : CallR X (.builtin "len") (rLenLi K) := hK ▸ call_lenLi
theorem op_eqLiK (hu : X.A.units + 64 < cLine) (hK : X.K = K := by rfl) : OpR X (compareOp .Eq) (rEqLi K) := hK ▸ op_eqLi hu
theorem op_neLiK (hu : X.A.units + 64 < cLine) (hK : X.K = K := by rfl) : OpR X (compareOp .NotEq) (rNeLi K) := hK ▸ op_neLi hu
theorem pi_listK {tg l : Expr} {tl : TE} (hl : PE X l tl) (hK : X.K = K := by rfl) : PI X tg l (iList K tl) := hK ▸ pi_list hl
theorem cr_sumK (hc : X.calm = true) (hK : X.K = K := by rfl) : CallR X (.builtin "sum") (rSum K) := hK ▸ cr_sum hc
theorem cr_maxK (hc : X.calm = true) (hK : X.K = K := by rfl) : CallR X (.builtin "max") (rMax K) := hK ▸ cr_max hc
theorem cr_minK (hc : X.calm = true) (hK : X.K = K := by rfl) : CallR X (.builtin "min") (rMin K) := hK ▸ cr_min hc
end
end Vx

namespace Vx
open PySem PySem.Spec PyProof.Rows L2
theorem tyes_go {σ : L2.St} {H : Hp} {f g : Hp → Prop} (h : f H) : tYes σ H (fun b H3 => if b = true then f H3 else g H3) := by
  show if true = true then f H else g H
  exact iteT h
end Vx

/-! # second part: data of any depth, the stable heap G, the owned addresses O -/
namespace Vx
open PySem PySem.Spec PyProof.Rows L2
mutual
inductive Rp (H : Hp) : V → PyData → Prop
  | non : Rp H .non .none
  | bl (b : Bool) : Rp H (.bl b) (.bool b)
  | int (i : Int) : Rp H (.int i) (.int i)
  | str (x : Str) : Rp H (.str x) (.str x)
  | lst {a : Addr} {xs : List V} {ds : List PyData} : H a = some (.lst xs) → RpAll H xs ds → Rp H (.ref a) (.list ds)
  | tup {a : Addr} {xs : List V} {ds : List PyData} : H a = some (.tup xs) → RpAll H xs ds → Rp H (.ref a) (.tuple ds)
inductive RpAll (H : Hp) : List V → List PyData → Prop
  | nil : RpAll H [] []
  | cons {v : V} {vs : List V} {d : PyData} {ds : List PyData} : Rp H v d → RpAll H vs ds → RpAll H (v :: vs) (d :: ds)
end
mutual
theorem Rp.mono {H H' : Hp} (e : Same H H') : ∀ {v : V} {d : PyData}, Rp H v d → Rp H' v d
  | _, _, .non => .non
  | _, _, .bl b => .bl b
  | _, _, .int i => .int i
  | _, _, .str x => .str x
  | _, _, .lst h r => .lst (e _ _ h) (RpAll.mono e r)
  | _, _, .tup h r => .tup (e _ _ h) (RpAll.mono e r)
theorem RpAll.mono {H H' : Hp} (e : Same H H') : ∀ {vs : List V} {ds : List PyData}, RpAll H vs ds → RpAll H' vs ds
  | _, _, .nil => .nil
  | _, _, .cons a b => .cons (Rp.mono e a) (RpAll.mono e b)
end
mutual
theorem Rp.dp {K : PySem.W.Frag} {H : Hp} : ∀ {v : V} {d : PyData}, Rp H v d → Dp K H v d
  | _, _, .non => .non
  | _, _, .bl b => .bl b
  | _, _, .int i => .int i
  | _, _, .str x => .str x
  | _, _, .lst h r => .lst (SqL.of h) (RpAll.dp r)
  | _, _, .tup h r => .tup (SqT.of h) (RpAll.dp r)
theorem RpAll.dp {K : PySem.W.Frag} {H : Hp} : ∀ {vs : List V} {ds : List PyData}, RpAll H vs ds → DpAll K H vs ds
  | _, _, .nil => .nil
  | _, _, .cons a b => .cons (Rp.dp a) (RpAll.dp b)
end
theorem RpAll.append {H : Hp} : ∀ {xs ys : List V} {ds es : List PyData}, RpAll H xs ds → RpAll H ys es → RpAll H (xs ++ ys) (ds ++ es)
  | _, _, _, _, .nil, s => s
  | _, _, _, _, .cons r t, s => .cons r (RpAll.append t s)
theorem RpAll.ints {H : Hp} : ∀ xs : List Int, RpAll H (xs.map V.int) (xs.map PyData.int)
  | [] => .nil
  | x :: xs => .cons (.int x) (RpAll.ints xs)
theorem RpAll.bls {H : Hp} : ∀ xs : List Bool, RpAll H (xs.map V.bl) (xs.map PyData.bool)
  | [] => .nil
  | x :: xs => .cons (.bl x) (RpAll.bls xs)
theorem RpAll.one {H : Hp} {v : V} {d : PyData} (h : Rp H v d) : RpAll H [v] [d] := .cons h .nil
theorem RpAll.len {H : Hp} : ∀ {vs : List V} {ds : List PyData}, RpAll H vs ds → vs.length = ds.length
  | _, _, .nil => rfl
  | _, _, .cons _ t => by rw [List.length_cons, List.length_cons, RpAll.len t]
theorem RpAll.at {H : Hp} : ∀ {vs : List V} {ds : List PyData} {i : Nat} {v : V}, RpAll H vs ds → vs[i]? = some v → ∃ d, ds[i]? = some d ∧ Rp H v d
  | _, _, _, _, .nil, h => by simp at h
  | _, _, 0, _, .cons r _, h => by
    simp at h
    subst h
    exact ⟨_, rfl, r⟩
  | _, _, i + 1, _, .cons _ t, h => by
    obtain ⟨d, h1, h2⟩ := RpAll.at (i := i) t (by simpa using h)
    exact ⟨d, by simpa using h1, h2⟩
theorem RpAll.at' {H : Hp} : ∀ {vs : List V} {ds : List PyData} {i : Nat} {d : PyData}, RpAll H vs ds → ds[i]? = some d → ∃ v, vs[i]? = some v ∧ Rp H v d
  | _, _, _, _, .nil, h => by simp at h
  | _, _, 0, _, .cons r _, h => by
    simp at h
    subst h
    exact ⟨_, rfl, r⟩
  | _, _, i + 1, _, .cons _ t, h => by
    obtain ⟨v, h1, h2⟩ := RpAll.at' (i := i) t (by simpa using h)
    exact ⟨v, by simpa using h1, h2⟩
theorem RpAll.take {H : Hp} : ∀ (n : Nat) {vs : List V} {ds : List PyData}, RpAll H vs ds → RpAll H (vs.take n) (ds.take n)
  | 0, _, _, _ => by simpa using RpAll.nil
  | n + 1, _, _, .nil => by simpa using RpAll.nil
  | n + 1, _, _, .cons r t => .cons r (RpAll.take n t)
theorem RpAll.drop {H : Hp} : ∀ (n : Nat) {vs : List V} {ds : List PyData}, RpAll H vs ds → RpAll H (vs.drop n) (ds.drop n)
  | 0, _, _, r => r
  | n + 1, _, _, .nil => by simpa using RpAll.nil
  | n + 1, _, _, .cons r t => RpAll.drop n t
theorem RpAll.set {H : Hp} {v : V} {d : PyData} (h : Rp H v d) : ∀ (n : Nat) {vs : List V} {ds : List PyData}, RpAll H vs ds → RpAll H (vs.set n v) (ds.set n d)
  | _, _, _, .nil => .nil
  | 0, _, _, .cons _ t => .cons h t
  | n + 1, _, _, .cons r t => .cons r (RpAll.set h n t)
theorem RpAll.rep {H : Hp} {vs : List V} {ds : List PyData} (h : RpAll H vs ds) : ∀ n : Nat, RpAll H (List.replicate n vs).flatten (List.replicate n ds).flatten
  | 0 => by simpa using RpAll.nil
  | n + 1 => by
    rw [List.replicate_succ, List.flatten_cons, List.replicate_succ, List.flatten_cons]
    exact RpAll.append h (RpAll.rep h n)
theorem RpAll.get {α : Type} {f : α → PyData} {H : Hp} {vs : List V} {xs : List α} {i : Nat} {v : V} (r : RpAll H vs (xs.map f)) (h : vs[i]? = some v) : ∃ x, xs[i]? = some x ∧ Rp H v (f x) := by
  obtain ⟨d, h1, h2⟩ := RpAll.at r h
  rw [List.getElem?_map] at h1
  cases e : xs[i]? with
  | none => rw [e] at h1; cases h1
  | some x =>
    rw [e] at h1
    have : f x = d := Option.some.inj h1
    exact ⟨x, rfl, this ▸ h2⟩
/-- the item at an index, data -/
theorem RpAll.ix {α : Type} {f : α → PyData} {H : Hp} {vs : List V} {xs : List α} {k : Int} (r : RpAll H vs (xs.map f)) (h : -(xs.length : Int) ≤ k ∧ k < xs.length) : ∃ v x, atI vs k = some v ∧ atI xs k = some x ∧ Rp H v (f x) := by
  have hl : vs.length = xs.length := by rw [r.len, List.length_map]
  have hk : ∃ j, ixN xs.length k = some j ∧ j < xs.length := by
    unfold ixN
    by_cases h0 : 0 ≤ k
    · refine ⟨k.toNat, ?_, by omega⟩
      rw [if_pos h0, if_pos h.2]
    · refine ⟨(k + xs.length).toNat, ?_, by omega⟩
      rw [if_neg h0, if_pos h.1]
  obtain ⟨j, e, hj⟩ := hk
  have hx := List.getElem?_eq_getElem hj
  obtain ⟨v, h1, h2⟩ := RpAll.at' (i := j) (d := f xs[j]) r (by rw [List.getElem?_map, hx] <;> rfl)
  refine ⟨v, xs[j], ?_, ?_, h2⟩
  · unfold atI
    rw [hl, e]
    exact h1
  · unfold atI
    rw [e]
    exact hx

/-! ### types -/
def encL {α : Type} (f : α → PyData) (xs : List α) : PyData := .list (xs.map f)
def encT2 {α β : Type} (f : α → PyData) (g : β → PyData) (p : α × β) : PyData := .tuple [f p.1, g p.2]
def encT3 {α β γ : Type} (f : α → PyData) (g : β → PyData) (h : γ → PyData) (p : α × β × γ) : PyData := .tuple [f p.1, g p.2.1, h p.2.2]
def encT4 {α β γ δ : Type} (f : α → PyData) (g : β → PyData) (h : γ → PyData) (i : δ → PyData) (p : α × β × γ × δ) : PyData := .tuple [f p.1, g p.2.1, h p.2.2.1, i p.2.2.2]
structure EncOk {α : Type} [DecidableEq α] (n : Nat) (f : α → PyData) : Prop where
  lay : ∀ x, PyData.canLay0 (f x) = true
  dep : ∀ x, PyData.depth (f x) ≤ n
  eqv : ∀ x y, PyData.eqv (f x) (f y) = decide (x = y)
theorem encOk_int : EncOk 0 PyData.int := ⟨fun _ => by simp [PyData.canLay0], fun _ => by simp [PyData.depth], fun x y => by simp [PyData.eqv]; by_cases h : x = y <;> simp [h]⟩
theorem encOk_bool : EncOk 0 PyData.bool := ⟨fun _ => by simp [PyData.canLay0], fun _ => by simp [PyData.depth], fun x y => by cases x <;> cases y <;> simp [PyData.eqv]⟩
section
variable {α β γ δ : Type} [DecidableEq α] [DecidableEq β] [DecidableEq γ] [DecidableEq δ] {n m l o : Nat} {f : α → PyData} {g : β → PyData} {h : γ → PyData} {i : δ → PyData}
theorem lay_map (ok : EncOk n f) : ∀ xs : List α, PyData.canLayAll0 (xs.map f) = true
  | [] => by simp [PyData.canLayAll0]
  | x :: xs => by simp [PyData.canLayAll0, ok.lay x, lay_map ok xs]
theorem dep_map (ok : EncOk n f) : ∀ xs : List α, PyData.depthAll (xs.map f) ≤ n
  | [] => by simp [PyData.depthAll]
  | x :: xs => by
    have h1 := ok.dep x
    have h2 := dep_map ok xs
    simp only [List.map_cons, PyData.depthAll]
    omega
theorem eqv_map (ok : EncOk n f) : ∀ xs ys : List α, PyData.eqvAll (xs.map f) (ys.map f) = decide (xs = ys)
  | [], [] => by simp [PyData.eqvAll]
  | [], y :: ys => by simp [PyData.eqvAll]
  | x :: xs, [] => by simp [PyData.eqvAll]
  | x :: xs, y :: ys => by
    have ih := eqv_map ok xs ys
    simp only [List.map_cons, PyData.eqvAll, ok.eqv, ih]
    by_cases h : x = y <;> by_cases h2 : xs = ys <;> simp [h, h2]
theorem encOk_L (ok : EncOk n f) : EncOk (n + 1) (encL f) := ⟨fun xs => by simp [encL, PyData.canLay0, lay_map ok], fun xs => by
  have := dep_map ok xs
  simp only [encL, PyData.depth]
  omega, fun xs ys => by simp only [encL, PyData.eqv]; exact eqv_map ok xs ys⟩
theorem encOk_T2 (ok : EncOk n f) (ok2 : EncOk m g) : EncOk (max n m + 1) (encT2 f g) := ⟨fun x => by simp [encT2, PyData.canLay0, PyData.canLayAll0, ok.lay, ok2.lay], fun x => by
  have h1 := ok.dep x.1
  have h2 := ok2.dep x.2
  simp only [encT2, PyData.depth, PyData.depthAll]
  omega, fun x y => by
  obtain ⟨a, b⟩ := x
  obtain ⟨c, d⟩ := y
  simp only [encT2, PyData.eqv, PyData.eqvAll, ok.eqv, ok2.eqv, Prod.mk.injEq]
  by_cases h1 : a = c <;> by_cases h2 : b = d <;> simp [h1, h2]⟩
theorem encOk_T3 (ok : EncOk n f) (ok2 : EncOk m g) (ok3 : EncOk l h) : EncOk (max n (max m l) + 1) (encT3 f g h) := ⟨fun x => by simp [encT3, PyData.canLay0, PyData.canLayAll0, ok.lay, ok2.lay, ok3.lay], fun x => by
  have h1 := ok.dep x.1
  have h2 := ok2.dep x.2.1
  have h3 := ok3.dep x.2.2
  simp only [encT3, PyData.depth, PyData.depthAll]
  omega, fun x y => by
  obtain ⟨a, b, e⟩ := x
  obtain ⟨c, d, e'⟩ := y
  simp only [encT3, PyData.eqv, PyData.eqvAll, ok.eqv, ok2.eqv, ok3.eqv, Prod.mk.injEq]
  by_cases h1 : a = c <;> by_cases h2 : b = d <;> by_cases h3 : e = e' <;> simp [h1, h2, h3]⟩
theorem encOk_T4 (ok : EncOk n f) (ok2 : EncOk m g) (ok3 : EncOk l h) (ok4 : EncOk o i) : EncOk (max n (max m (max l o)) + 1) (encT4 f g h i) := ⟨fun x => by simp [encT4, PyData.canLay0, PyData.canLayAll0, ok.lay, ok2.lay, ok3.lay, ok4.lay], fun x => by
  have h1 := ok.dep x.1
  have h2 := ok2.dep x.2.1
  have h3 := ok3.dep x.2.2.1
  have h4 := ok4.dep x.2.2.2
  simp only [encT4, PyData.depth, PyData.depthAll]
  omega, fun x y => by
  obtain ⟨a, b, e, u⟩ := x
  obtain ⟨c, d, e', u'⟩ := y
  simp only [encT4, PyData.eqv, PyData.eqvAll, ok.eqv, ok2.eqv, ok3.eqv, ok4.eqv, Prod.mk.injEq]
  by_cases h1 : a = c <;> by_cases h2 : b = d <;> by_cases h3 : e = e' <;> by_cases h4 : u = u' <;> simp [h1, h2, h3, h4]⟩
end
section
variable {X : Cx} {α : Type} [DecidableEq α] {n : Nat} {f : α → PyData}
def rEqT (f : α → PyData) : R2 := fun x y H Q => ∃ (a b : α), Rp H x (f a) ∧ Rp H y (f b) ∧ Q (.bl (decide (a = b))) H
def rNeT (f : α → PyData) : R2 := fun x y H Q => ∃ (a b : α), Rp H x (f a) ∧ Rp H y (f b) ∧ Q (.bl (!decide (a = b))) H
theorem shaped_of (ok : EncOk n f) (hn : n ≤ 64) (a : α) : SeqAt.shaped (f a) = true := by
  unfold SeqAt.shaped
  have h := ok.dep a
  rw [ok.lay]
  simp
  omega
theorem op_eqT (ok : EncOk n f) (hu : X.A.units + 64 < cLine) (hn : n ≤ 64 := by decide) : OpR X (compareOp .Eq) (rEqT f) := by
  intro pins s σ H x y v u Q I rx ry h
  obtain ⟨a, b, h1, h2, q⟩ := h
  exact op_eqD hu pins s σ H _ _ v u Q I rx ry ⟨_, _, h1.dp, h2.dp, shaped_of ok hn a, shaped_of ok hn b, by rw [ok.eqv]; exact q⟩
theorem op_neT (ok : EncOk n f) (hu : X.A.units + 64 < cLine) (hn : n ≤ 64 := by decide) : OpR X (compareOp .NotEq) (rNeT f) := by
  intro pins s σ H x y v u Q I rx ry h
  obtain ⟨a, b, h1, h2, q⟩ := h
  exact op_neD hu pins s σ H _ _ v u Q I rx ry ⟨_, _, h1.dp, h2.dp, shaped_of ok hn a, shaped_of ok hn b, by rw [ok.eqv]; exact q⟩
end
section
variable {H : Hp} {v : V} {α β γ δ : Type} {f : α → PyData} {g : β → PyData} {h : γ → PyData} {i : δ → PyData}
theorem rp_int {x : Int} (r : Rp H v (.int x)) : v = .int x := by cases r; rfl
theorem rp_bool {x : Bool} (r : Rp H v (.bool x)) : v = .bl x := by cases r; rfl
theorem rp_str {x : Str} (r : Rp H v (.str x)) : v = .str x := by cases r; rfl
theorem rp_list {xs : List α} (r : Rp H v (encL f xs)) : ∃ a vs, v = .ref a ∧ H a = some (.lst vs) ∧ RpAll H vs (xs.map f) := by
  unfold encL at r
  cases r with
  | lst h1 h2 => exact ⟨_, _, rfl, h1, h2⟩
theorem rpAll_ints : ∀ {vs : List V} {xs : List Int}, RpAll H vs (xs.map PyData.int) → vs = xs.map V.int
  | _, [], .nil => rfl
  | _, x :: xs, .cons r t => by rw [rp_int r, rpAll_ints t] <;> rfl
theorem rp_ints {xs : List Int} (r : Rp H v (encL PyData.int xs)) : ∃ a, v = .ref a ∧ H a = some (.lst (xs.map V.int)) := by
  obtain ⟨a, vs, e, h1, h2⟩ := rp_list r
  rw [rpAll_ints h2] at h1
  exact ⟨a, e, h1⟩
theorem rp_tup2 {x : α × β} (r : Rp H v (encT2 f g x)) : ∃ a v1 v2, v = .ref a ∧ H a = some (.tup [v1, v2]) ∧ Rp H v1 (f x.1) ∧ Rp H v2 (g x.2) := by
  unfold encT2 at r
  cases r with
  | tup h1 h2 =>
    cases h2 with
    | cons a b =>
      cases b with
      | cons b c =>
        cases c
        exact ⟨_, _, _, rfl, h1, a, b⟩
theorem rp_tup3 {x : α × β × γ} (r : Rp H v (encT3 f g h x)) : ∃ a v1 v2 v3, v = .ref a ∧ H a = some (.tup [v1, v2, v3]) ∧ Rp H v1 (f x.1) ∧ Rp H v2 (g x.2.1) ∧ Rp H v3 (h x.2.2) := by
  unfold encT3 at r
  cases r with
  | tup h1 h2 =>
    cases h2 with
    | cons a b =>
      cases b with
      | cons b c =>
        cases c with
        | cons c d =>
          cases d
          exact ⟨_, _, _, _, rfl, h1, a, b, c⟩
theorem rp_mk_list {a : Addr} {vs : List V} {xs : List α} (h1 : H a = some (.lst vs)) (h2 : RpAll H vs (xs.map f)) : Rp H (.ref a) (encL f xs) := .lst h1 h2
theorem rp_mk_ints {a : Addr} {xs : List Int} (h1 : H a = some (.lst (xs.map V.int))) : Rp H (.ref a) (encL PyData.int xs) := .lst h1 (RpAll.ints xs)
theorem rp_mk2 {a : Addr} {v1 v2 : V} {x : α} {y : β} (h1 : H a = some (.tup [v1, v2])) (r1 : Rp H v1 (f x)) (r2 : Rp H v2 (g y)) : Rp H (.ref a) (encT2 f g (x, y)) := .tup h1 (.cons r1 (.cons r2 .nil))
theorem rp_mk3 {a : Addr} {v1 v2 v3 : V} {x : α} {y : β} {z : γ} (h1 : H a = some (.tup [v1, v2, v3])) (r1 : Rp H v1 (f x)) (r2 : Rp H v2 (g y)) (r3 : Rp H v3 (h z)) : Rp H (.ref a) (encT3 f g h (x, y, z)) := .tup h1 (.cons r1 (.cons r2 (.cons r3 .nil)))
end

/-! ### the two heaps -/
def SameXs (L : List Addr) (H H' : Hp) : Prop := ∀ b o, H b = some o → b ∉ L → H' b = some o
theorem SameXs.of {H H' : Hp} {m : Addr} (x : SameX m H H') : SameXs [m] H H' := fun b o e n => x b o e (fun z => n (by rw [z]; exact List.mem_cons_self))
theorem ni1 {b m : Addr} (h : b ≠ m) : b ∉ [m] := by simpa using h
theorem ni2 {b m n : Addr} (h : b ≠ m) (h2 : b ≠ n) : b ∉ [m, n] := by simp [h, h2]
theorem ni3 {b m n o : Addr} (h : b ≠ m) (h2 : b ≠ n) (h3 : b ≠ o) : b ∉ [m, n, o] := by simp [h, h2, h3]
theorem ni4 {b m n o p : Addr} (h : b ≠ m) (h2 : b ≠ n) (h3 : b ≠ o) (h4 : b ≠ p) : b ∉ [m, n, o, p] := by simp [h, h2, h3, h4]
def hideL (L : List Addr) (H : Hp) : Hp := fun b => if b ∈ L then none else H b
theorem hideL_same (L : List Addr) (H : Hp) : Same (hideL L H) H := fun b o e => by
  unfold hideL at e
  split at e
  · cases e
  · exact e
theorem hideL_in {L : List Addr} {H : Hp} {b : Addr} (h : b ∈ L) : hideL L H b = none := if_pos h
theorem hideL_out {L : List Addr} {H : Hp} {b : Addr} (h : b ∉ L) : hideL L H b = H b := if_neg h
/-- M: owned from outside; H0, G0: at the entry; G: what stays as it is; O: what may change -/
structure Sep (M : List Addr) (H0 G0 G H : Hp) (O : List Addr) : Prop where
  base : SameXs M H0 H
  pm : ∀ a ∈ M, H a ≠ none
  sG : Same G H
  g0 : Same G0 G
  gn : ∀ b, H0 b ≠ none → G0 b = none → G b = none
  ow : ∀ a ∈ O, G a = none ∧ H a ≠ none ∧ (a ∈ M ∨ H0 a = none)
theorem all_nil {P : Addr → Prop} : ∀ x ∈ ([] : List Addr), P x := fun x h => by cases h
theorem all_cons {P : Addr → Prop} {a : Addr} {l : List Addr} (h : P a) (t : ∀ x ∈ l, P x) : ∀ x ∈ a :: l, P x := fun x hx => by
  cases hx with
  | head => exact h
  | tail _ hx => exact t x hx
theorem some_ne {H : Hp} {a : Addr} {o : HO} (h : H a = some o) : H a ≠ none := by
  rw [h]
  exact fun z => nomatch z
theorem same_ne {H H' : Hp} {a : Addr} (e : Same H H') (h : H a ≠ none) : H' a ≠ none := by
  cases q : H a with
  | none => exact absurd q h
  | some o => exact some_ne (e a o q)
section
variable {M : List Addr} {H0 G0 G H H' : Hp} {O : List Addr} {p m : Addr} {o : HO}
theorem Sep.start (M : List Addr) (H : Hp) (hM : ∀ a ∈ M, H a ≠ none) : Sep M H (hideL M H) (hideL M H) H M :=
  ⟨fun _ _ e _ => e, hM, hideL_same M H, Same.refl _, fun _ _ e => e, fun a ha => ⟨hideL_in ha, hM a ha, .inl ha⟩⟩
theorem Sep.startG {G H : Hp} (e : Same G H) : Sep [] H G G H [] := ⟨fun _ _ e _ => e, all_nil, e, Same.refl _, fun _ _ e => e, fun a ha => by cases ha⟩
theorem Sep.start0 (H : Hp) : Sep [] H H H H [] := Sep.startG (Same.refl H)
theorem Sep.b0 (S : Sep [] H0 G0 G H O) : Same H0 H := fun b o e => S.base b o e List.not_mem_nil
theorem Sep.free (S : Sep M H0 G0 G H O) {q : Addr} (n : H q = none) : H0 q = none := by
  cases e : H0 q with
  | none => rfl
  | some o =>
    by_cases h : q ∈ M
    · exact absurd n (S.pm q h)
    · rw [S.base q o e h] at n
      cases n
theorem Sep.same (S : Sep M H0 G0 G H O) (e : Same H H') : Sep M H0 G0 G H' O :=
  ⟨fun b o h n => e b o (S.base b o h n), fun a ha => same_ne e (S.pm a ha), S.sG.trans e, S.g0, S.gn, fun a ha => ⟨(S.ow a ha).1, same_ne e (S.ow a ha).2.1, (S.ow a ha).2.2⟩⟩
theorem Sep.gfree (S : Sep M H0 G0 G H O) {q : Addr} (n : H q = none) : G q = none := by
  cases e : G q with
  | none => rfl
  | some o => rw [S.sG q o e] at n; cases n
theorem Sep.new (S : Sep M H0 G0 G H O) (n : H p = none) (e : Same H H') (h : H' p = some o) (hm : H0 p = none) : Sep M H0 G0 G H' (p :: O) := by
  have S1 := S.same e
  refine ⟨S1.base, S1.pm, S1.sG, S1.g0, S1.gn, fun a ha => ?_⟩
  cases ha with
  | head => exact ⟨S.gfree n, some_ne h, .inr hm⟩
  | tail _ ha => exact S1.ow a ha
theorem Sep.grow (S : Sep M H0 G0 G H O) (n : H p = none) (e : Same H H') (h : H' p = some o) (hm : H0 p = none) : ∃ G', Same G G' ∧ G' p = some o ∧ Sep M H0 G0 G' H' O := by
  have S1 := S.same e
  have ng := S.gfree n
  refine ⟨upd G p o, fun b u q => by rw [upd_ne (ne_of_none q ng)]; exact q, upd_same, S1.base, S1.pm, fun b u q => ?_, fun b u q => ?_, fun b hb gb => ?_, fun a ha => ?_⟩
  · by_cases z : b = p
    · subst z
      rw [upd_same] at q
      exact q ▸ h
    · rw [upd_ne z] at q
      exact S1.sG b u q
  · have := S.g0 b u q
    rw [upd_ne (ne_of_none this ng)]
    exact this
  · by_cases z : b = p
    · subst z
      exact absurd hm hb
    · rw [upd_ne z]
      exact S.gn b hb gb
  · have hne : a ≠ p := fun z => (S.ow a ha).2.1 (by rw [z]; exact n)
    rw [upd_ne hne]
    exact S1.ow a ha
theorem Sep.mut (S : Sep M H0 G0 G H O) {L : List Addr} (x : SameXs L H H') (hL : ∀ a ∈ L, a ∈ O) (hs : ∀ a ∈ L, H' a ≠ none) : Sep M H0 G0 G H' O := by
  have keep : ∀ a, H a ≠ none → H' a ≠ none := fun a h => by
    by_cases hb : a ∈ L
    · exact hs a hb
    · cases q : H a with
      | none => exact absurd q h
      | some o => exact some_ne (x a o q hb)
  refine ⟨fun b o e n => ?_, fun a ha => keep a (S.pm a ha), fun b o e => ?_, S.g0, S.gn, fun a ha => ⟨(S.ow a ha).1, keep a (S.ow a ha).2.1, (S.ow a ha).2.2⟩⟩
  · refine x b o (S.base b o e n) fun hb => ?_
    rcases (S.ow b (hL b hb)).2.2 with z | z
    · exact n z
    · rw [e] at z; cases z
  · refine x b o (S.sG b o e) fun hb => ?_
    have := (S.ow b (hL b hb)).1
    rw [e] at this
    cases this
theorem Sep.mut1 (S : Sep M H0 G0 G H O) (x : SameX m H H') (hm : m ∈ O) (h : H' m = some o) : Sep M H0 G0 G H' O :=
  S.mut (SameXs.of x) (all_cons hm all_nil) (all_cons (some_ne h) all_nil)
theorem Sep.sub (S : Sep M H0 G0 G H O) {O' : List Addr} (h : ∀ a ∈ O', a ∈ O) : Sep M H0 G0 G H O' := ⟨S.base, S.pm, S.sG, S.g0, S.gn, fun a ha => S.ow a (h a ha)⟩
/-- what was owned and is to stay as it is from now on -/
theorem Sep.freeze (S : Sep M H0 G0 G H O) {O' : List Addr} (hp : p ∈ O) (h : H p = some o) (hm : H0 p = none) (hO : ∀ a ∈ O', a ∈ O ∧ a ≠ p) : ∃ G', Same G G' ∧ G' p = some o ∧ Sep M H0 G0 G' H O' := by
  have ng := (S.ow p hp).1
  refine ⟨upd G p o, fun b u q => by rw [upd_ne (ne_of_none q ng)]; exact q, upd_same, S.base, S.pm, fun b u q => ?_, fun b u q => ?_, fun b hb gb => ?_, fun a ha => ?_⟩
  · by_cases z : b = p
    · subst z
      rw [upd_same] at q
      exact q ▸ h
    · rw [upd_ne z] at q
      exact S.sG b u q
  · have := S.g0 b u q
    rw [upd_ne (ne_of_none this ng)]
    exact this
  · by_cases z : b = p
    · subst z
      exact absurd hm hb
    · rw [upd_ne z]
      exact S.gn b hb gb
  · rw [upd_ne (hO a ha).2]
    exact S.ow a (hO a ha).1
/-- a callee that hands on data in a stable heap of its own -/
theorem Sep.step (S : Sep M H0 G0 G H O) {G' : Hp} (e : Same H H') (eG : Same G G') (sG : Same G' H') (hn : ∀ b, H b ≠ none → G b = none → G' b = none) : Sep M H0 G0 G' H' O := by
  have S1 := S.same e
  refine ⟨S1.base, S1.pm, sG, S.g0.trans eG, fun b hb gb => ?_, fun a ha => ⟨hn a (S.ow a ha).2.1 (S.ow a ha).1, (S1.ow a ha).2⟩⟩
  refine hn b (fun z => ?_) (S.gn b hb gb)
  exact hb (S.free z)
theorem Sep.hid (S : Sep M H0 G0 G H O) {L : List Addr} (h : ∀ a ∈ L, a ∈ O) : Same G (hideL L H) := fun b o e => by
  rw [hideL_out fun z => by
    have := (S.ow b (h b z)).1
    rw [e] at this
    cases this]
  exact S.sG b o e
end
end Vx

namespace Vx
open PySem PySem.Spec PyProof.Rows L2
/-! ### lists of plain things (f : V.int, V.bl, V.str) -/
section
variable {α : Type} {f : α → V} {H : Hp} {p : Addr}
theorem cat_map {xs ys : List α} (h : H p = some (.lst (xs.map f ++ ys.map f))) : H p = some (.lst ((xs ++ ys).map f)) := by
  rw [List.map_append]; exact h
theorem snoc_map {xs : List α} {y : α} (h : H p = some (.lst (xs.map f ++ [f y]))) : H p = some (.lst ((xs ++ [y]).map f)) := by
  rw [List.map_append]; exact h
def repL (xs : List α) (k : Int) : List α := (List.replicate k.toNat xs).flatten
theorem rep_map {xs : List α} {k : Int} (h : H p = some (.lst (List.replicate k.toNat (xs.map f)).flatten)) : H p = some (.lst ((repL xs k).map f)) := by
  rw [h]
  unfold repL
  rw [List.map_flatten, List.map_replicate]
def cutL (xs : List α) (lo hi : Option Int) : List α := (xs.drop (HT.sIx xs.length 0 lo)).take (HT.sIx xs.length xs.length hi - HT.sIx xs.length 0 lo)
theorem cut_map {xs : List α} {lo hi : Option Int} (h : H p = some (.lst (cutV (xs.map f) lo hi))) : H p = some (.lst ((cutL xs lo hi).map f)) := by
  rw [h]
  unfold cutV cutL
  rw [List.length_map, List.map_take, List.map_drop]
theorem cast_map {xs ys : List α} (h : H p = some (.lst (xs.map f))) (e : xs = ys) : H p = some (.lst (ys.map f)) := e ▸ h
theorem drop_map {xs : List α} (h : H p = some (.lst (xs.map f).dropLast)) : H p = some (.lst (xs.dropLast.map f)) := by
  rw [h, List.map_dropLast]
theorem ixN_some {n : Nat} {k : Int} (h : -(n : Int) ≤ k ∧ k < n) : ∃ j, ixN n k = some j ∧ j < n := by
  unfold ixN
  by_cases h0 : 0 ≤ k
  · exact ⟨k.toNat, by rw [if_pos h0, if_pos h.2], by omega⟩
  · exact ⟨(k + n).toNat, by rw [if_neg h0, if_pos h.1], by omega⟩
def itD [Inhabited α] (xs : List α) (k : Int) : α := (atI xs k).getD default
theorem atI_map [Inhabited α] {xs : List α} {k : Int} (h : -(xs.length : Int) ≤ k ∧ k < xs.length) : atI (xs.map f) k = some (f (itD xs k)) := by
  obtain ⟨j, e, hj⟩ := ixN_some h
  unfold itD atI
  rw [List.length_map, e]
  show (xs.map f)[j]? = some (f ((xs[j]?).getD default))
  rw [List.getElem?_map, List.getElem?_eq_getElem hj] <;> rfl
def setL (xs : List α) (k : Int) (y : α) : List α := xs.set ((ixN xs.length k).getD 0) y
theorem ixN_map {xs : List α} {k : Int} (h : -(xs.length : Int) ≤ k ∧ k < xs.length) : ixN (xs.map f).length k = some ((ixN xs.length k).getD 0) := by
  obtain ⟨j, e, hj⟩ := ixN_some h
  rw [List.length_map, e] <;> rfl
theorem set_map {xs : List α} {k : Int} {y : α} (h : H p = some (.lst ((xs.map f).set ((ixN xs.length k).getD 0) (f y)))) : H p = some (.lst ((setL xs k y).map f)) := by
  rw [h]
  unfold setL
  rw [List.map_set]
def lastD [Inhabited α] (xs : List α) : α := xs.getLastD default
theorem pop_map [Inhabited α] {xs : List α} (h : xs ≠ []) : (xs.map f)[(xs.map f).length - 1]? = some (f (lastD xs)) := by
  rw [← List.getLast?_eq_getElem?, List.getLast?_map]
  unfold lastD
  cases e : xs.getLast? with
  | none => exact absurd (List.getLast?_eq_none_iff.mp e) h
  | some y =>
    rw [List.getLastD_eq_getLast?, e] <;> rfl
end
/-! ### lists of data -/
section
variable {α β : Type} {f : α → PyData} {g : β → PyData} {G : Hp} {vs ws : List V} {xs ys : List α}
theorem app_map (a : RpAll G vs (xs.map f)) (b : RpAll G ws (ys.map f)) : RpAll G (vs ++ ws) ((xs ++ ys).map f) := by
  rw [List.map_append]; exact a.append b
theorem one_map {v : V} {y : α} (a : RpAll G vs (xs.map f)) (b : Rp G v (f y)) : RpAll G (vs ++ [v]) ((xs ++ [y]).map f) := by
  rw [List.map_append]; exact a.append (.one b)
theorem rep_all (k : Int) (a : RpAll G vs (xs.map f)) : RpAll G (List.replicate k.toNat vs).flatten ((repL xs k).map f) := by
  unfold repL
  rw [List.map_flatten, List.map_replicate]
  exact a.rep _
theorem cut_all (lo hi : Option Int) (a : RpAll G vs (xs.map f)) : RpAll G (cutV vs lo hi) ((cutL xs lo hi).map f) := by
  unfold cutV cutL
  rw [a.len, List.length_map, List.map_take, List.map_drop]
  exact (a.drop _).take _
theorem rp_cast {v : V} {d e : PyData} (r : Rp G v d) (h : d = e) : Rp G v e := h ▸ r
theorem comp_listD {i : Nat} {x : α} {y : β} {v : V} {h : α → β} (hi : xs[i]? = some x) (a : RpAll G vs (((xs.take i).map h).map g)) (r : Rp G v (g y)) (e : h x = y) : RpAll G (vs ++ [v]) (((xs.take (i + 1)).map h).map g) := by
  rw [take_succ_get hi, List.map_append, List.map_append]
  exact a.append (.one (e ▸ r))
theorem comp_rangeD {i : Nat} {y : β} {v : V} {h : Nat → β} (a : RpAll G vs (((List.range i).map h).map g)) (r : Rp G v (g y)) (e : h i = y) : RpAll G (vs ++ [v]) (((List.range (i + 1)).map h).map g) := by
  rw [List.range_succ, List.map_append, List.map_append]
  exact a.append (.one (e ▸ r))
theorem comp_doneD {n : Nat} {h : List α → List β} (hl : n = xs.length) (a : RpAll G vs ((h (xs.take n)).map g)) : RpAll G vs ((h xs).map g) := by
  rw [hl, List.take_length] at a
  exact a
theorem comp_listFD {i : Nat} {x : α} {y : β} {v : V} {h : α → β} {q : α → Bool} (hi : xs[i]? = some x) (hq : q x = true) (a : RpAll G vs ((((xs.take i).filter q).map h).map g)) (r : Rp G v (g y)) (e : h x = y) : RpAll G (vs ++ [v]) ((((xs.take (i + 1)).filter q).map h).map g) := by
  rw [take_succ_get hi, List.filter_append, List.filter_cons, if_pos hq, List.map_append, List.map_append]
  exact a.append (.one (e ▸ r))
theorem skip_listD {i : Nat} {x : α} {h : α → β} {q : α → Bool} (hi : xs[i]? = some x) (hq : q x = false) (a : RpAll G vs ((((xs.take i).filter q).map h).map g)) : RpAll G vs ((((xs.take (i + 1)).filter q).map h).map g) := by
  rw [take_succ_get hi, List.filter_append, List.filter_cons, if_neg (by rw [hq]; decide), List.filter_nil, List.append_nil]
  exact a
end
section
variable {α β : Type} {f : β → V} {H : Hp} {D : Addr} {xs : List α}
theorem compM_list {i : Nat} {x : α} {y : β} {h : α → β} (hi : xs[i]? = some x) (a : H D = some (.lst (((xs.take i).map h).map f ++ [f y]))) (e : h x = y) : H D = some (.lst (((xs.take (i + 1)).map h).map f)) := by
  rw [a, ← e, take_succ_get hi, List.map_append, List.map_append] <;> rfl
theorem compM_range {i : Nat} {y : β} {h : Nat → β} (a : H D = some (.lst (((List.range i).map h).map f ++ [f y]))) (e : h i = y) : H D = some (.lst (((List.range (i + 1)).map h).map f)) := by
  rw [a, ← e, List.range_succ, List.map_append, List.map_append] <;> rfl
theorem compM_done {n : Nat} {h : List α → List β} (hl : n = xs.length) (a : H D = some (.lst ((h (xs.take n)).map f))) : H D = some (.lst ((h xs).map f)) := by
  rw [hl, List.take_length] at a
  exact a
theorem compM_listF {i : Nat} {x : α} {y : β} {h : α → β} {q : α → Bool} (hi : xs[i]? = some x) (hq : q x = true) (a : H D = some (.lst ((((xs.take i).filter q).map h).map f ++ [f y]))) (e : h x = y) : H D = some (.lst ((((xs.take (i + 1)).filter q).map h).map f)) := by
  rw [a, ← e, take_succ_get hi, List.filter_append, List.filter_cons, if_pos hq, List.map_append, List.map_append] <;> rfl
theorem skipM_list {i : Nat} {x : α} {h : α → β} {q : α → Bool} (hi : xs[i]? = some x) (hq : q x = false) (a : H D = some (.lst ((((xs.take i).filter q).map h).map f))) : H D = some (.lst ((((xs.take (i + 1)).filter q).map h).map f)) := by
  rw [a, take_succ_get hi, List.filter_append, List.filter_cons, if_neg (by rw [hq]; decide), List.filter_nil, List.append_nil]
theorem compM_rangeF {i : Nat} {y : β} {h : Nat → β} {q : Nat → Bool} (hq : q i = true) (a : H D = some (.lst ((((List.range i).filter q).map h).map f ++ [f y]))) (e : h i = y) : H D = some (.lst ((((List.range (i + 1)).filter q).map h).map f)) := by
  rw [a, ← e, List.range_succ, List.filter_append, List.filter_cons, if_pos hq, List.map_append, List.map_append] <;> rfl
theorem skipM_range {i : Nat} {h : Nat → β} {q : Nat → Bool} (hq : q i = false) (a : H D = some (.lst ((((List.range i).filter q).map h).map f))) : H D = some (.lst ((((List.range (i + 1)).filter q).map h).map f)) := by
  rw [a, List.range_succ, List.filter_append, List.filter_cons, if_neg (by rw [hq]; decide), List.filter_nil, List.append_nil]
end
/-! ### more rules -/
section
variable {X : Cx} {K : PySem.W.Frag}
theorem ix_tupK (hK : X.K = K := by rfl) : IxR X (rIxT K) := hK ▸ ix_tup
def rLenLK (K : PySem.W.Frag) : List V → Hp → VK → Prop := fun xs H Q => ∃ (p : Addr) (vs : List V) (n : Nat), xs = [.ref p] ∧ SqL K H p vs ∧ vs.length = n ∧ Q (.int (n : Int)) H
theorem call_lenLK (hK : X.K = K := by rfl) : CallR X (.builtin "len") (rLenLK K) := by
  subst hK
  intro pins s σ H xs us Q I r h
  obtain ⟨p, vs, n, rfl, hs, hn, q⟩ := h
  exact call_len_seq pins s σ H _ us Q I r ⟨p, _, rfl, Or.inl hs, by rw [hn]; exact q⟩
def rListLK (K : PySem.W.Frag) : List V → Hp → VK → Prop := fun xs H Q => ∃ (p : Addr) (vs : List V), xs = [.ref p] ∧ SqL K H p vs ∧ ∀ l, H l = none → Q (.ref l) (upd H l (.lst vs))
theorem call_listLK (hK : X.K = K := by rfl) : CallR X (.type "list") (rListLK K) := by
  subst hK
  intro pins s σ H xs us Q I r h
  obtain ⟨p, vs, rfl, hs, q⟩ := h
  exact call_list_of pins s σ H _ us Q I r ⟨p, _, rfl, Or.inl hs, q⟩
theorem cr_anyK (hc : X.calm = true) (hK : X.K = K := by rfl) : CallR X (.builtin "any") (rAny K) := hK ▸ cr_any hc
theorem cr_allK (hc : X.calm = true) (hK : X.K = K := by rfl) : CallR X (.builtin "all") (rAll K) := hK ▸ cr_all hc
theorem pi_tupK {tg l : Expr} {tl : TE} (hl : PE X l tl) (hK : X.K = K := by rfl) : PI X tg l (iTup K tl) := hK ▸ pi_tup hl
theorem pip {op : Operator} {r : R2} (h : OpR X (inplaceOp op) r) : PIp X op r := fun pins s σ H x y v u Q I rx ry q => h pins s σ H x y v u Q I rx ry q
/-- an item at a place from 0 on, by itself (ahead of o[i] op= e) -/
def rIxP (K : PySem.W.Frag) : R2 := fun x y H Q => ∃ (p : Addr) (xs : List V) (k : Int) (v : V), x = .ref p ∧ y = .int k ∧ SqL K H p xs ∧ 0 ≤ k ∧ k < 2 ^ 62 ∧ atI xs k = some v ∧ Q v H
theorem pget_list (hK : X.K = K := by rfl) : PGet X (rIxP K) := by
  subst hK
  intro pins s σ H o i ov iv Q I ro ri h
  obtain ⟨p, xs, k, v, rfl, rfl, hq, h0, h62, ha, q⟩ := h
  cases ro
  obtain ⟨t, rfl⟩ := ri
  obtain ⟨its, r, pl, hz⟩ := I.list hq
  obtain ⟨j, h1, h2, h3, h4, h5⟩ := atI_get ha
  obtain ⟨w, ew, rw'⟩ := r.get h2
  have hj : k.toNat = j := by
    rw [seqIndex_of h0 h5] at h1
    exact Option.some.inj h1
  exact getItem_listL pl.isList h0 (by omega) (by rw [hj]; simpa using ew) ⟨v, H, I, rw', q⟩
theorem tru_map {α : Type} [DecidableEq α] {f : α → V} {xs : List α} : (!decide (xs = [])) = !(xs.map f).isEmpty := by
  cases xs <;> simp
end
end Vx

namespace Vx
open PySem PySem.Spec PyProof.Rows L2
/-! ### objects -/
section
variable {M : List Addr} {H0 G0 G H H' : Hp} {O : List Addr} {p m : Addr} {o : HO}
theorem gen_obj {x dx : Addr} {o1 o2 : HO} (nx : H x = none) (nd : H dx = none) (ne : dx ≠ x) (h : upd (upd H dx o1) x o2 = H') : Same H H' ∧ H' x = some o2 := by
  subst h
  exact ⟨fun b u e => by rw [upd_ne (ne_of_none e nx), upd_ne (ne_of_none e nd)]; exact e, upd_same⟩
theorem sameX_of {m : Addr} (x : SameXs [m] H H') : SameX m H H' := fun b o e n => x b o e (by simpa using n)
theorem g_ne {a b : Addr} (h : G a = some o) (S : Sep M H0 G0 G H O) (hb : b ∈ O) : a ≠ b := fun z => by
  have := (S.ow b hb).1
  rw [← z, h] at this
  cases this
/-- an object whose making has laid some lists -/
theorem Sep.mutnew (S : Sep M H0 G0 G H O) {L : List Addr} (x : SameXs L H H') (hL : ∀ a ∈ L, a ∈ O) (hs : ∀ a ∈ L, H' a ≠ none) (hn : H p = none) (hp : H' p ≠ none) (h0 : H0 p = none) : Sep M H0 G0 G H' (p :: O) := by
  have S1 := S.mut x hL hs
  refine ⟨S1.base, S1.pm, S1.sG, S1.g0, S1.gn, all_cons ⟨S.gfree hn, hp, .inr h0⟩ S1.ow⟩
theorem Sep.init (S : Sep M H0 G0 G H O) (x : SameX m H H') (hm : m ∈ O) (h : H' m = some o) (L : List Addr) (hL : ∀ a ∈ L, H a = none ∧ H' a ≠ none ∧ H0 a = none) : Sep M H0 G0 G H' (L ++ O) := by
  have S1 := S.mut1 x hm h
  refine ⟨S1.base, S1.pm, S1.sG, S1.g0, S1.gn, fun a ha => ?_⟩
  rcases List.mem_append.mp ha with z | z
  · obtain ⟨h1, h2, h3⟩ := hL a z
    exact ⟨S.gfree h1, h2, .inr h3⟩
  · exact S1.ow a z
end
section
variable {P : Program} {w : World} {K : PySem.W.Frag} {mg : Str → Option Value} {base : Heap}
structure MethIn (K : PySem.W.Frag) (C : Addr) (q m : Str) (st : Stmt) (ps : List Str) : Prop where
  ex : ∃ (f : Addr) (fd : FuncData), Fun K m q st f fd ∧ Meth K C m f ∧ Binds K fd ps []
structure PropIn (K : PySem.W.Frag) (C : Addr) (q m : Str) (st : Stmt) (ps : List Str) : Prop where
  ex : ∃ (r f : Addr) (fd : FuncData), Fun K m q st f fd ∧ PropOf K C m r f ∧ Binds K fd ps []
structure InitIn (K : PySem.W.Frag) (mg : Str → Option Value) (C : Addr) (cn q : Str) (st : Stmt) (ps : List Str) : Prop where
  ex : ∃ (f : Addr) (fd : FuncData), Fun K "__init__" q st f fd ∧ Mk K C f ∧ mg cn = some (.ref C) ∧ Binds K fd ps []
structure MetC (P : Program) (w : World) (K : PySem.W.Frag) (mg : Str → Option Value) (base : Heap) (k : Nat) (C : Addr) (m : Str) (sp : Sp) : Prop where
  ex : ∃ (f : Addr) (fd : FuncData) (ps : List Str), Cls K C ∧ Meth K C m f ∧ FnOk P w K mg base CX0 k f fd ps sp ∧ Binds K fd ps []
structure PropC (P : Program) (w : World) (K : PySem.W.Frag) (mg : Str → Option Value) (base : Heap) (k : Nat) (C : Addr) (m : Str) (sp : Sp) : Prop where
  ex : ∃ (q f : Addr) (fd : FuncData) (ps : List Str), Cls K C ∧ PropOf K C m q f ∧ FnOk P w K mg base CX0 k f fd ps sp ∧ Binds K fd ps []
structure MakC (P : Program) (w : World) (K : PySem.W.Frag) (mg : Str → Option Value) (base : Heap) (k : Nat) (cn : Str) (C : Addr) (sp : Sp) : Prop where
  ex : ∃ (f : Addr) (fd : FuncData) (ps : List Str), Mk K C f ∧ FnOk P w K mg base CX0 k f fd ps sp ∧ mg cn = some (.ref C) ∧ Binds K fd ps []
abbrev Body (P : Program) (w : World) (K : PySem.W.Frag) (mg : Str → Option Value) (base : Heap) (x : Str) (st : Stmt) (N : List Str) (k : Nat) (sp : Sp) : Prop :=
  ∀ (f : Addr) (cdv : Value) (A : Around) (outer : List Env) (s : Shared) (H : Hp) (vs : List V) (Q : VK) (E : XK), Room k (A.deeper (envOfC x (defScope st) s.heap.objs.size f cdv)) → sp vs H Q E →
    ∃ t, PSs (cxOf CX0 P w K mg base N x (defScope st) f cdv A outer s H E).nox (defBody st) t ∧ t { nx := fun _ H' => Q .non H', rt := Q } (start N vs) H
theorem MethIn.ok {C : Addr} {q m : Str} {st : Stmt} {N ps : List Str} {k : Nat} {sp : Sp} (D : MethIn K C q m st ps) (c : Cls K C) (S : FnScope N ps (defScope st)) (len : ∀ vs H Q E, sp vs H Q E → vs.length = ps.length)
    (hbody : Body P w K mg base q st N k sp) : MetC P w K mg base (k + 1) C m sp := by
  obtain ⟨f, fd, F, me, b⟩ := D.ex
  exact ⟨f, fd, ps, c, me, F.ok S len (fun cdv A outer s H vs Q E hr h => hbody f cdv A outer s H vs Q E hr h), b⟩
theorem PropIn.ok {C : Addr} {q m : Str} {st : Stmt} {N ps : List Str} {k : Nat} {sp : Sp} (D : PropIn K C q m st ps) (c : Cls K C) (S : FnScope N ps (defScope st)) (len : ∀ vs H Q E, sp vs H Q E → vs.length = ps.length)
    (hbody : Body P w K mg base q st N k sp) : PropC P w K mg base (k + 1) C m sp := by
  obtain ⟨r, f, fd, F, me, b⟩ := D.ex
  exact ⟨r, f, fd, ps, c, me, F.ok S len (fun cdv A outer s H vs Q E hr h => hbody f cdv A outer s H vs Q E hr h), b⟩
theorem InitIn.ok {C : Addr} {cn q : Str} {st : Stmt} {N ps : List Str} {k : Nat} {sp : Sp} (D : InitIn K mg C cn q st ps) (S : FnScope N ps (defScope st)) (len : ∀ vs H Q E, sp vs H Q E → vs.length = ps.length)
    (hbody : Body P w K mg base q st N k sp) : MakC P w K mg base (k + 1) cn C sp := by
  obtain ⟨f, fd, F, me, hm, b⟩ := D.ex
  exact ⟨f, fd, ps, me, F.ok S len (fun cdv A outer s H vs Q E hr h => hbody f cdv A outer s H vs Q E hr h), hm, b⟩
end
section
variable {X : Cx} {k j : Nat} {C : Addr} {x m : Str} {sp : Sp} {p pos apos : Pos} {e o : Expr} {es : List Expr} {ta : TE} {t : TA}
theorem vx_call0 (c : Cal X.prog X.w X.K X.mg X.base k x sp) (hr : Room j X.A) (hk : k ≤ j) (hg : Gl X x) (hdb : (x == ("__debug__" : Str)) = false := by decide) : PE X (.Call (.Name x p) [] [] pos) (tCall sp [] E0 tNil) := by
  obtain ⟨f, fd, ps, F, hm, kp, b⟩ := c.ex
  exact pe_call0 F (hr.mono hk) hg hm kp b .nil pass0 hdb
theorem vx_make (c : MakC X.prog X.w X.K X.mg X.base k x C sp) (hr : Room j X.A) (hk : k + 1 ≤ j) (hg : Gl X x) (ha : PA X (e :: es) t)
    (hdb : (x == ("__debug__" : Str)) = false := by decide) (he : starEach (e :: es) X.env = (false, eval e X.env) :: starEach es X.env := by rfl) (hpl : (backTo pos (starEach es X.env)).any (·.1) = false := by rfl) :
    PE X (.Call (.Name x p) (e :: es) [] pos) (tMake C sp [] E0 t) := by
  obtain ⟨f, fd, ps, M, F, hm, b⟩ := c.ex
  exact pe_make M F (hr.mono hk) hg hm b .nil pass0 ha hdb he hpl
theorem vx_make0 (c : MakC X.prog X.w X.K X.mg X.base k x C sp) (hr : Room j X.A) (hk : k + 1 ≤ j) (hg : Gl X x) (hdb : (x == ("__debug__" : Str)) = false := by decide) :
    PE X (.Call (.Name x p) [] [] pos) (tMake C sp [] E0 tNil) := by
  obtain ⟨f, fd, ps, M, F, hm, b⟩ := c.ex
  exact pe_make0 M F (hr.mono hk) hg hm b .nil pass0 hdb
theorem vx_meth {pl : Sem Bool} (c : MetC X.prog X.w X.K X.mg X.base k C m sp) (hr : Room j X.A) (hk : k ≤ j) (he : PE X o ta) (ha : PA X (e :: es) t)
    (hst : starEach (e :: es) X.env = (false, eval e X.env) :: starEach es X.env := by rfl) (hpl : (backTo pos (starEach es X.env)).any (·.1) = false := by rfl)
    (ht : eval (.Call (.Attribute o m apos) (e :: es) [] pos) X.env = (do
      let ov ← eval o X.env
      standAt apos.atName
      let (f, first) ← holding [ov] (getMethod ov m pl)
      callWith pos f first (backTo pos (starEach (e :: es) X.env)) (backToKw pos (keywordEach [] X.env))) := by rfl) :
    PE X (.Call (.Attribute o m apos) (e :: es) [] pos) (tMeth C m sp [] E0 ta t) := by
  obtain ⟨f, fd, ps, hc, hm, F, b⟩ := c.ex
  exact pe_meth he hc hm F (hr.mono hk) b .nil pass0 ha hst hpl ht
theorem vx_meth0 {pl : Sem Bool} (c : MetC X.prog X.w X.K X.mg X.base k C m sp) (hr : Room j X.A) (hk : k ≤ j) (he : PE X o ta)
    (ht : eval (.Call (.Attribute o m apos) [] [] pos) X.env = (do
      let ov ← eval o X.env
      standAt apos.atName
      let (f, first) ← holding [ov] (getMethod ov m pl)
      callWith pos f first (backTo pos (starEach [] X.env)) (backToKw pos (keywordEach [] X.env))) := by rfl) :
    PE X (.Call (.Attribute o m apos) [] [] pos) (tMeth C m sp [] E0 ta tNil) := by
  obtain ⟨f, fd, ps, hc, hm, F, b⟩ := c.ex
  exact pe_meth0 he hc hm F (hr.mono hk) b .nil pass0 ht
theorem vx_prop (c : PropC X.prog X.w X.K X.mg X.base k C m sp) (hr : Room j X.A) (hk : k + 1 ≤ j) (he : PE X o ta) (hab : attributeBase o m X.env (eval o X.env) = eval o X.env) : PE X (.Attribute o m pos) (tProp C sp [] E0 ta) := by
  obtain ⟨q, f, fd, ps, hc, hp, F, b⟩ := c.ex
  exact pe_prop he hc hp F (hr.mono hk) b .nil pass0 hab
end
theorem iteBNT {b : Bool} {A B : Prop} (h : b = false) (k : A) : if (!b) = true then A else B := by rw [h]; exact iteT k
theorem iteNN {b : Bool} {A B : Prop} (h : if b = true then A else B) : if (!!b) = true then A else B := by rw [Bool.not_not]; exact h
theorem iteBNF {b : Bool} {A B : Prop} (h : b = true) (k : B) : if (!b) = true then A else B := by rw [h]; exact iteF k
theorem shl_side {i j : Int} (h0 : 0 ≤ j) (h1 : j ≤ 4096) (h2 : -(2 ^ 4096) < i) (h3 : i < 2 ^ 4096) : CShl i j := by
  obtain ⟨k, rfl⟩ := Int.eq_ofNat_of_zero_le h0
  exact shl_ok (n := 4096) (by omega) (by omega)
end Vx

namespace Vx
open PySem PySem.Spec PyProof.Rows L2
section
variable {X : Cx} {K : PySem.W.Frag}
theorem fldK {e : Expr} {f : Str} {pos : Pos} {ta : TE} (he : PE X e ta) (hb : attributeBase e f X.env (eval e X.env) = eval e X.env := by rfl) (hK : X.K = K := by rfl) : PE X (.Attribute e f pos) (tFld K ta f) := hK ▸ pe_fld he hb
theorem pg_tupK {es : List Expr} {k : Nat} {t : TGs} {n : Nat} {pos : Pos} (h : PGs X es t) (hc : X.calm = true := by rfl)
    (hn : (assignEach es X.env).length = n := by rfl) (hst : (assignEach es X.env).findIdx? (·.1) = none := by rfl) (hK : X.K = K := by rfl) : PG X (.Tuple es k pos) (gTup K n t) := hK ▸ pg_tup hc h hn hst
end
end Vx

namespace Vx
open PySem PySem.Spec PyProof.Rows L2
section
variable {α β : Type} {f : α → PyData} {g : β → PyData} {fv : α → V} {gv : β → V} {G : Hp} {vs ws : List V} {xs : List α} {ys : List β}
theorem big1 {n : Nat} (h : n ≤ 1000000) : n ≤ sizeLine := smallE h
theorem cat_len (a : RpAll G vs (xs.map f)) (b : RpAll G ws (ys.map g)) (h : xs.length + ys.length ≤ 1000000) : vs.length + ws.length ≤ sizeLine := by
  rw [a.len, b.len, List.length_map, List.length_map]; exact smallE h
theorem cat_lenM (h : xs.length + ys.length ≤ 1000000) : (xs.map fv).length + (ys.map gv).length ≤ sizeLine := by
  rw [List.length_map, List.length_map]; exact smallE h
theorem rep_len {k : Nat} (a : RpAll G vs (xs.map f)) (h : xs.length * k ≤ 1000000) : vs.length * k ≤ sizeLine := by
  rw [a.len, List.length_map]; exact smallE h
theorem rep_lenM {k : Nat} (h : xs.length * k ≤ 1000000) : (xs.map fv).length * k ≤ sizeLine := by
  rw [List.length_map]; exact smallE h
theorem app_len (a : RpAll G vs (xs.map f)) (h : xs.length ≤ 1000000) : vs.length < sizeLine := by
  rw [a.len, List.length_map]; exact small h
theorem app_lenM (h : xs.length ≤ 1000000) : (xs.map fv).length < sizeLine := by
  rw [List.length_map]; exact small h
theorem cutL_len {α : Type} (xs : List α) (lo hi : Option Int) : (cutL xs lo hi).length ≤ xs.length := by
  unfold cutL
  rw [List.length_take, List.length_drop]
  omega
theorem repL_len {α : Type} (xs : List α) (k : Int) : (repL xs k).length = k.toNat * xs.length := by
  unfold repL
  simp
end
end Vx
/-! # promises of defs that know that nothing is being shown (so that repr may be called) -/
namespace Vx
open PySem PySem.Spec PyProof.Rows L2
structure RoomG (k : Nat) (A : Around) : Prop extends Room k A where
  gd : A.guards = some []
theorem RoomG.low {j k : Nat} {A : Around} (r : RoomG k A) (h : j ≤ k) : RoomG j A := ⟨r.toRoom.mono h, r.gd⟩
theorem RoomG.one {k : Nat} {A : Around} (r : RoomG (k + 1) A) : RoomG k A.in1 := ⟨r.toRoom.in1, r.gd⟩
theorem make_gd {A : Around} (C : Addr) (us : List Value) (kw : List (Str × Value)) (h : A.guards = some []) : (A.under (.builtin "type.__call__" ⟨.ref C :: us, kw⟩)).guards = some [] := by
  obtain ⟨hd, d, fr, gs, u⟩ := A
  subst h
  simp [Around.under, Code.guards, Code.isGuard, guardIds, pushGuards]
theorem RoomG.made {k : Nat} {A : Around} (r : RoomG (k + 1) A) (C : Addr) (us : List Value) (kw : List (Str × Value)) : RoomG k (A.under (.builtin "type.__call__" ⟨.ref C :: us, kw⟩)) := ⟨r.toRoom.make C us kw, make_gd C us kw r.gd⟩
structure FnG (P : Program) (w : World) (K : PySem.W.Frag) (mg : Str → Option Value) (base : Heap) (cx : CXT) (k : Nat) (f : Addr) (fd : FuncData) (ps : List Str) (sp : Sp) : Prop where
  len : ∀ vs H Q E, sp vs H Q E → vs.length = ps.length
  run : ∀ (A : Around) (outer : List Env) (s : Shared) (H : Hp) (args : Args) (us : List Value) (vs : List V) (Q : VK) (E : XK), RoomG k A → Env0 P w K mg base A outer s H → BindsTo s fd args (ps.zip us) → Vals vs us → sp vs H Q E → codeAny (model P w) A (.call (.ref f) args) (CR cx outer P w H s Q E) s
section
variable {P : Program} {w : World} {K : PySem.W.Frag} {mg : Str → Option Value} {base : Heap} {cx : CXT} {j k : Nat} {f : Addr} {fd : FuncData} {ps : List Str} {sp sp' : Sp}
theorem FnG.imp (F : FnG P w K mg base cx k f fd ps sp) (h : ∀ vs H Q E, sp' vs H Q E → sp vs H Q E) : FnG P w K mg base cx k f fd ps sp' := ⟨fun vs H Q E q => F.len vs H Q E (h vs H Q E q), fun A o s H a us vs Q E r e b v q => F.run A o s H a us vs Q E r e b v (h vs H Q E q)⟩
/-- the body's promise is the def's -/
theorem FnG.body {x qual : Str} {params : Arguments} {body : List Stmt} {scope : Scope} {dvs : List V} {kws : List (Str × V)} {N : List Str} (F : FunD K x qual params body scope dvs kws f fd) (S : FnScope N ps scope) (len : ∀ vs H Q E, sp vs H Q E → vs.length = ps.length)
    (hb : ∀ (cdv : Value) (A : Around) (outer : List Env) (s : Shared) (H : Hp) (vs : List V) (Q : VK) (E : XK), RoomG k (A.deeper (envOfC qual scope s.heap.objs.size f cdv)) → sp vs H Q E →
      ∃ t, PSs (cxOf cx P w K mg base N qual scope f cdv A outer s H E) body t ∧ t { nx := fun _ H' => Q .non H', rt := Q } (start N vs) H) : FnG P w K mg base cx (k + 1) f fd ps sp := by
  obtain ⟨oc, od, dV, kV, doc, pm, an, cdv, ct, osl, rfl, lk, code, _, _⟩ := F.ex
  constructor
  · exact len
  · intro A outer s H args us vs Q E room env binds vals prom
    have nvs := len vs H Q E prom
    have kin : K.In s.heap := env.mod.kin.keeps fun b o q => (env.bs b o q).1
    have nolim : s.heap.NoLimit := env.mod.nolimit.keeps fun b o q => (env.bs b o q).1
    have kinds : ∀ q ∈ ps.zip us, scope.names.lookup q.1 = some .local ∨ (scope.names.lookup q.1 = some .cell ∧ ((cellsFrom (s.heap.objs.size + 1) scope.names []).lookup q.1).isSome = true) := by
      rintro ⟨n, v⟩ hq
      cases S.par n (List.of_mem_zip hq).1 with
      | inl z => exact .inl z
      | inr z => exact .inr ⟨z, PySem.W.cellsFrom_some _ _ _ (.inl z)⟩
    refine codeAny_call_function room.toRoom.depth (kin _ _ lk) rfl S.co S.gen rfl (PySem.W.codeRec_of kin code) (binds _ _ _ _ ?_)
    refine wpAny_newFunctionEnv_cells S.kind kinds ?_
    rintro _ rfl s1 made
    refine ⟨nolim.keeps made.toInCall.keep, codeAny_func ?_⟩
    obtain ⟨t, pss, start_⟩ := hb cdv A outer s H vs Q E ⟨room.toRoom.deeper _, room.gd⟩ prom
    have inv := inv_start (CX := cx) (E := E) S room.hd env nvs vals made
    have close : ∀ {τ : L2.St} {H2 : Hp} {v : V} {u : Value} {s2 : Shared}, Inv (cxOf cx P w K mg base N qual scope f cdv A outer s H E) [] τ H2 s2 → RelV v u → Q v H2 → CE outer P w H s Q u s2 := fun inv2 rel q => ⟨_, _, inv2.os, inv2.bare, inv2.base, inv2.hok, rel, q⟩
    refine wpAny_mono (pss.run [] s1 (start N vs) H _ inv start_) ?_ fun _ _ z => z
    intro flow s2 out
    cases flow with
    | next =>
      obtain ⟨τ, H2, inv2, q⟩ := out
      exact close (v := .non) (u := .none) inv2 rfl q
    | ret u =>
      obtain ⟨v, τ, H2, inv2, rel, q⟩ := out
      exact close inv2 rel q
    | brk =>
      obtain ⟨_, _, _, q⟩ := out
      exact q.elim
    | cont =>
      obtain ⟨_, _, _, q⟩ := out
      exact q.elim
/-- the same of a body that nothing leaves -/
theorem FnG.bodyN {x qual : Str} {params : Arguments} {body : List Stmt} {scope : Scope} {dvs : List V} {kws : List (Str × V)} {N : List Str} (F : FunD K x qual params body scope dvs kws f fd) (S : FnScope N ps scope) (len : ∀ vs H Q E, sp vs H Q E → vs.length = ps.length)
    (hb : ∀ (cdv : Value) (A : Around) (outer : List Env) (s : Shared) (H : Hp) (vs : List V) (Q : VK) (E : XK), RoomG k (A.deeper (envOfC qual scope s.heap.objs.size f cdv)) → sp vs H Q E →
      ∃ t, PSs (cxOf CX0 P w K mg base N qual scope f cdv A outer s H E).nox body t ∧ t { nx := fun _ H' => Q .non H', rt := Q } (start N vs) H) : FnG P w K mg base CX0 (k + 1) f fd ps sp :=
  FnG.body F S len fun cdv A outer s H vs Q E r p => by
    obtain ⟨t, h, q⟩ := hb cdv A outer s H vs Q E r p
    exact ⟨t, h.nox, q⟩
end
/-- where a law's call begins: an abstract heap that tells the script at most -/
theorem law_start {P : Program} {w : World} {K : PySem.W.Frag} {mg mb : Str → Option Value} {a : Addr} {s : Shared} {vs : List Value} {ns : List Int} (kin : K.In s.heap) (top : s.heap.Ns mainGlobals mg) (blt : s.heap.Ns builtinsNs mb) (boot : ∀ y : Str, y ≠ "__name__" → mb y = bootBuiltins y)
    (lim : s.heap.NoLimit) (gens : s.gens = #[]) (script : s.heap.get? a = some { cls := .type "list", data := .seq vs.toArray }) (whole : IntsAre vs ns) (short : ns.length ≤ sizeLine) :
    ∃ (H : Hp) (base : Heap), SqL K H a (ns.map V.int) ∧ K.In base ∧ base.Ns mainGlobals mg ∧ Env0 P w K mg base callerA [] s H ∧
      ∀ (Z : V → Prop) (u : Value) (s2 : Shared), CE [] P w H s (fun v _ => Z v) u s2 → (∃ v, RelV v u ∧ Z v) ∧ OldK s.heap s2.heap ∧ s2.os = s.os ∧ AllBare s2.gens := by
  have rel := vals_ints whole
  have lenV := whole.length
  -- any H that tells no more than the script, and that only where the written part does not hold it, will do
  have fits : ∀ H : Hp, (∀ b, H b = none ∨ ∃ o xs, H b = some (.frz o (.lst xs))) → SqL K H a (ns.map V.int) → HOk P w H s.heap → (∀ b, b ≠ a → H b = none) → (∀ o, K.lookup a = some o → H a = none) →
      ∃ (H : Hp) (base : Heap), SqL K H a (ns.map V.int) ∧ K.In base ∧ base.Ns mainGlobals mg ∧ Env0 P w K mg base callerA [] s H ∧
        ∀ (Z : V → Prop) (u : Value) (s2 : Shared), CE [] P w H s (fun v _ => Z v) u s2 → (∃ v, RelV v u ∧ Z v) ∧ OldK s.heap s2.heap ∧ s2.os = s.os ∧ AllBare s2.gens := by
    intro H only seq ok else_ apart
    have dictFree : ∀ (b : Addr) (o : Obj) (es : Array DictEntry) (n : Nat), s.heap.get? b = some o → o.data = .dict es n → H b = none := by
      intro b o es n e d
      by_cases z : b = a
      · subst z
        rw [script] at e
        injection e with e
        subst e
        cases d
      · exact else_ b z
    have nsOf : ∀ {b : Addr} {m : Str → Option Value}, s.heap.Ns b m → (hidT s.heap H).Ns b m := by
      rintro b m ⟨o, es, n, e, d, r⟩
      exact ⟨o, es, n, hidT_get e (dictFree b o es n e d), d, r⟩
    have kinB : K.In (hidT s.heap H) := by
      intro b o e
      refine hidT_get (kin b o e) ?_
      by_cases z : b = a
      · subst z
        exact apart o e
      · exact else_ b z
    obtain ⟨mc, lim1, lim2⟩ := lim
    refine ⟨H, hidT s.heap H, seq, kinB, nsOf top, ⟨rfl, ⟨kinB, nsOf top, ⟨mb, nsOf blt, boot⟩, mc, nsOf lim1, lim2⟩, fun b o e => of_hidT e, Nat.le_of_eq (hidT_size _ _), trivial, fun b hb => (nomatch (show b ∈ ([] : List Addr) from hb)), ok, .of_eq gens⟩, ?_⟩
    rintro Z u s2 ⟨v, H2, os, bare, un, ok2, r, z⟩
    refine ⟨⟨v, r, z⟩, OldK.of_keep fun b o e => ?_, os, bare⟩
    rcases only b with n | ⟨o1, xs, n⟩
    · exact un.keep b o e n (fun y => nomatch (show b ∈ ([] : List Addr) from y)) (fun y => nomatch y)
    · obtain ⟨e1, _⟩ := ok b _ n
      obtain ⟨e2, _⟩ := ok2 b _ (un.frzs b o1 _ n)
      rw [e] at e1
      injection e1 with e1
      subst e1
      exact e2
  cases kl : K.lookup a with
  | some o =>
    have e := kin a o kl
    rw [script] at e
    injection e with e
    subst e
    exact fits (fun _ => none) (fun _ => .inl rfl) (.inr ⟨_, vs.toArray, _, kl, rfl, rfl, rfl, by rw [List.size_toArray, lenV]; exact short, by simpa using rel⟩) (fun _ _ z => nomatch z) (fun _ _ => rfl) fun _ _ => rfl
  | none =>
    refine fits (fun b => if b = a then some (.frz { cls := .type "list", data := .seq vs.toArray } (.lst (ns.map V.int))) else none) ?_ (.inl (.inr ⟨_, if_pos rfl⟩)) ?_ (fun b n => if_neg n) fun o z => ?_
    · intro b
      by_cases z : b = a
      · exact .inr ⟨_, _, if_pos z⟩
      · exact .inl (if_neg z)
    · intro b u q
      by_cases z : b = a
      · subst z
        have q := (if_pos rfl).symm.trans q
        injection q with q
        subst q
        exact ⟨script, by rw [List.length_map]; exact short, vs, _, rel, script⟩
      · have q := (if_neg z).symm.trans q
        cases q
    · rw [kl] at z
      cases z
/-- the goal that the head leaves, from the law's promise; the script's numbers have at most 2 ^ 20 bits -/
theorem walkG {l : PySem.W.OpenLaw} {n k : Nat} {q : Program} {loose : List Str} {XP : (Str → Option Value) → Heap → Prop} {YP : World → Heap → Prop} {d : DefRec} {K : Params → PySem.W.Frag} {x : Str} (hn : l.most = some n) (hn2 : n ≤ sizeLine) (hdf : d.params.defaults = []) (room : Room k callerA)
    (hY : ∀ (w : World) (h : Heap), YP w h → (K w.params).In h)
    (F : ∀ (w : World) (mg : Str → Option Value) (fa : Addr) (h : Heap), (K w.params).In h → h.Ns mainGlobals mg → mg d.name = some (.ref fa) →
      ∃ fd : FuncData, (∀ (s : Shared) (u : Value), BindsTo s fd ⟨[u], []⟩ [(x, u)]) ∧ ∀ base : Heap, (K w.params).In base → base.Ns mainGlobals mg → FnG l.prog w (K w.params) mg base CX0 k fa fd [x] (fun vs H Q _ => ∃ (a : Addr) (ns : List Int), vs = [.ref a] ∧ SqL (K w.params) H a (ns.map V.int) ∧ ns.length ≤ n ∧ ∀ H', Q (.bl true) H')) :
    PySem.W.WalkO q loose XP YP l.row.toRowW d [] (fun f vs => PySem.call f vs) := by
  refine Att.attach_call hn hdf ?_
  intro w s₀ s₁ mg mb fa o pm cd doc a vs ns G Y _ _ _ hmg script whole short gens
  have kin := hY w _ Y
  obtain ⟨fd, bind, prom⟩ := F w mg fa _ kin G.T.g hmg
  obtain ⟨H, base, seq, kinB, nsB, env, fin⟩ := law_start (P := l.prog) (w := w) kin G.T.g G.T.b G.T.builtins G.T.nolimit gens script whole (Nat.le_trans short hn2)
  refine codeAny_mono ((prom base kinB nsB).run callerA [] s₁ H ⟨[.ref a], []⟩ [.ref a] [.ref a] (fun v _ => v = .bl true) (fun _ _ _ => False) ⟨room, rfl⟩ env (bind s₁ (.ref a)) (.cons rfl .nil) ⟨a, ns, rfl, seq, short, fun _ => rfl⟩) ?_
  intro r s2 out
  cases r with
  | error e => exact out.elim
  | ok flow =>
    cases flow with
    | ret u =>
      obtain ⟨⟨v, rv, z⟩, h1, h2, h3⟩ := fin (fun v => v = .bl true) u s2 out
      subst z
      obtain rfl : u = Value.bool true := rv
      exact ⟨rfl, h1, h2, h3⟩
    | next => exact out.elim
    | brk => exact out.elim
    | cont => exact out.elim
end Vx
/-! # third part: what a def computes, as a plain function with refusals -/
namespace Vx
open PySem PySem.Spec PyProof.Rows L2
inductive Rx (α : Type) where
  | ok (a : α)
  | er (e : Nat)
  | bad
def Rx.bind {α β : Type} (m : Rx α) (f : α → Rx β) : Rx β :=
  match m with
  | .ok a => f a
  | .er e => .er e
  | .bad => .bad
/-- what is wanted of an outcome -/
@[irreducible] def cW {α : Type} (m : Rx α) (K : α → Prop) (E : Nat → Prop) : Prop :=
  match m with
  | .ok a => K a
  | .er e => E e
  | .bad => False
def grd {α : Type} (p : Prop) [Decidable p] (m : Rx α) : Rx α := if p then m else .bad
/-- within a comprehension nothing may be raised -/
def noEr {α : Type} (m : Rx α) : Rx α :=
  match m with
  | .ok a => .ok a
  | _ => .bad
/-- what the clause does not name may not come -/
def tryR {α β : Type} (m : Rx α) (cs : List Nat) (f : α → Rx β) (h : Nat → Rx β) : Rx β :=
  match m with
  | .ok a => f a
  | .er e => if e ∈ cs then h e else .bad
  | .bad => .bad
def bnd {α β : Type} (a : α) (f : α → Rx β) : Rx β := f a
inductive Lp (σ ρ : Type) where
  | go (s : σ)
  | bk (s : σ)
  | rt (r : ρ)
def Lp.aft {σ ρ τ : Type} (l : Lp σ ρ) (kr : ρ → Rx τ) (k : σ → Rx τ) : Rx τ :=
  match l with
  | .go s => k s
  | .bk s => k s
  | .rt r => kr r
def forS {σ α : Type} : List α → σ → (σ → α → Rx σ) → Rx σ
  | [], s, _ => .ok s
  | x :: r, s, f => (f s x).bind fun s' => forS r s' f
def forR {σ α ρ : Type} : List α → σ → (σ → α → Rx (Lp σ ρ)) → Rx (Lp σ ρ)
  | [], s, _ => .ok (.go s)
  | x :: r, s, f => (f s x).bind fun l =>
    match l with
    | .go s' => forR r s' f
    | .bk s' => .ok (.go s')
    | .rt v => .ok (.rt v)
def whileR {σ ρ : Type} : Nat → σ → (σ → Rx (Lp σ ρ)) → Rx (Lp σ ρ)
  | 0, _, _ => .bad
  | n + 1, s, f => (f s).bind fun l =>
    match l with
    | .go s' => whileR n s' f
    | .bk s' => .ok (.go s')
    | .rt v => .ok (.rt v)
def mapA {α β : Type} : List α → List β → (α → Rx β) → Rx (List β)
  | [], acc, _ => .ok acc
  | x :: r, acc, f => grd (acc.length ≤ 1000000) ((f x).bind fun y => mapA r (acc ++ [y]) f)
def mapF {α β : Type} : List α → List β → (α → Rx (Option β)) → Rx (List β)
  | [], acc, _ => .ok acc
  | x :: r, acc, f => grd (acc.length ≤ 1000000) ((f x).bind fun y =>
    match y with
    | some z => mapF r (acc ++ [z]) f
    | none => mapF r acc f)
section
variable {α β γ σ ρ τ : Type} {K : α → Prop} {E : Nat → Prop}
theorem cW_ok {a : α} (h : cW (.ok a) K E) : K a := by
  unfold cW at h
  exact h
theorem cW_er {e : Nat} (h : cW (.er e : Rx α) K E) : E e := by
  unfold cW at h
  exact h
theorem cW_bad {C : Prop} (h : cW (.bad : Rx α) K E) : C := by
  unfold cW at h
  exact h.elim
theorem cW_mk {a : α} (h : K a) : cW (.ok a) K E := by
  unfold cW
  exact h
theorem cW_mkE {e : Nat} (h : E e) : cW (.er e : Rx α) K E := by
  unfold cW
  exact h
theorem cW_gen {m : Rx α} (h : cW m K E) : ∃ (K' : α → Prop) (E' : Nat → Prop), (∀ v, K' v → K v) ∧ (∀ e, E' e → E e) ∧ cW m K' E' := ⟨K, E, fun _ x => x, fun _ x => x, h⟩
theorem cW_grd {p : Prop} {dp : Decidable p} {m : Rx α} (h : cW (grd p m) K E) : p ∧ cW m K E := by
  unfold grd at h
  split at h
  · exact ⟨‹p›, h⟩
  · exact cW_bad h
theorem cW_pos {p : Prop} {dp : Decidable p} {a b : Rx α} (c : p) (h : cW (if p then a else b) K E) : cW a K E := by rwa [if_pos c] at h
theorem cW_neg {p : Prop} {dp : Decidable p} {a b : Rx α} (c : ¬ p) (h : cW (if p then a else b) K E) : cW b K E := by rwa [if_neg c] at h
theorem cW_call {m : Rx β} {f : β → Rx α} {K2 : β → Prop} {E2 : Nat → Prop} (h : cW (m.bind f) K E) (ho : ∀ v, cW (f v) K E → K2 v) (he : ∀ e, E e → E2 e) : cW m K2 E2 := by
  cases m with
  | ok a => exact cW_mk (ho a h)
  | er e => exact cW_mkE (he e (cW_er (α := α) h))
  | bad => exact cW_bad (α := α) h
theorem cW_push {m : Rx β} {f : β → Rx α} (h : cW (m.bind f) K E) : ∃ K2 : β → Prop, (∀ v, K2 v → cW (f v) K E) ∧ cW m K2 E := ⟨fun v => cW (f v) K E, fun _ x => x, cW_call h (fun _ x => x) fun _ x => x⟩
theorem cW_name {m : Rx α} (h : cW m K E) : ∃ K' : α → Prop, (∀ v, K' v → K v) ∧ cW m K' E := ⟨K, fun _ x => x, h⟩
theorem cW_noEr {m : Rx α} (h : cW (noEr m) K E) : cW m K (fun _ => False) := by
  cases m with
  | ok a => exact cW_mk (cW_ok (α := α) h)
  | er e => exact cW_bad (α := α) h
  | bad => exact cW_bad (α := α) h
theorem cW_try {m : Rx β} {cs : List Nat} {f : β → Rx α} {g : Nat → Rx α} {K2 : β → Prop} {E2 : Nat → Prop} (h : cW (tryR m cs f g) K E) (ho : ∀ v, cW (f v) K E → K2 v) (hc : ∀ e, e ∈ cs → cW (g e) K E → E2 e) : cW m K2 E2 := by
  cases m with
  | ok a => exact cW_mk (ho a h)
  | er e =>
    have h2 : cW (if e ∈ cs then g e else .bad) K E := h
    by_cases q : e ∈ cs
    · exact cW_mkE (hc e q (cW_pos q h2))
    · exact cW_bad (cW_neg q h2)
  | bad => exact cW_bad (α := α) h
theorem cW_bnd {a : β} {f : β → Rx α} (h : cW (bnd a f) K E) : cW (f a) K E := h
theorem cW_negB {b : Bool} {x y : Rx α} (c : b = false) (h : cW (if b = true then x else y) K E) : cW y K E := cW_neg (by rw [c]; decide) h
theorem cW_forS {xs : List β} {i : Nat} {x : β} {s : α} {f : α → β → Rx α} (hx : xs[i]? = some x) (h : cW (forS (xs.drop i) s f) K E) : cW (f s x) (fun s' => cW (forS (xs.drop (i + 1)) s' f) K E) E := by
  rw [List.drop_eq_getElem?_toList_append, hx] at h
  exact cW_call h (fun _ z => z) fun _ z => z
theorem cW_forS0 {xs : List β} {n : Nat} {s : α} {f : α → β → Rx α} (hn : n = xs.length) (h : cW (forS (xs.drop n) s f) K E) : K s := by
  subst hn
  rw [List.drop_length] at h
  exact cW_ok h
theorem cW_forR {K : Lp σ ρ → Prop} {xs : List β} {i : Nat} {x : β} {s : σ} {f : σ → β → Rx (Lp σ ρ)} (hx : xs[i]? = some x) (h : cW (forR (xs.drop i) s f) K E) :
    cW (f s x) (fun l => match l with | .go s' => cW (forR (xs.drop (i + 1)) s' f) K E | .bk s' => K (.go s') | .rt v => K (.rt v)) E := by
  rw [List.drop_eq_getElem?_toList_append, hx] at h
  refine cW_call h (fun l z => ?_) fun _ z => z
  cases l with
  | go s' => exact z
  | bk s' => exact cW_ok (K := K) (a := .go s') z
  | rt v => exact cW_ok (K := K) (a := .rt v) z
theorem cW_forR0 {K : Lp σ ρ → Prop} {xs : List β} {n : Nat} {s : σ} {f : σ → β → Rx (Lp σ ρ)} (hn : n = xs.length) (h : cW (forR (xs.drop n) s f) K E) : K (.go s) := by
  subst hn
  rw [List.drop_length] at h
  exact cW_ok h
theorem cW_whileR {K : Lp σ ρ → Prop} {m : Nat} {s : σ} {f : σ → Rx (Lp σ ρ)} (h : cW (whileR m s f) K E) :
    ∃ n, m = n + 1 ∧ cW (f s) (fun l => match l with | .go s' => cW (whileR n s' f) K E | .bk s' => K (.go s') | .rt v => K (.rt v)) E := by
  cases m with
  | zero => exact cW_bad h
  | succ n =>
    refine ⟨n, rfl, cW_call h (fun l z => ?_) fun _ z => z⟩
    cases l with
    | go s' => exact z
    | bk s' => exact cW_ok (K := K) (a := .go s') z
    | rt v => exact cW_ok (K := K) (a := .rt v) z
theorem cW_mapA {K : List α → Prop} {xs : List β} {acc : List α} {i : Nat} {x : β} {f : β → Rx α} (hx : xs[i]? = some x) (h : cW (mapA (xs.drop i) acc f) K E) :
    acc.length ≤ 1000000 ∧ cW (f x) (fun y => cW (mapA (xs.drop (i + 1)) (acc ++ [y]) f) K E) E := by
  rw [List.drop_eq_getElem?_toList_append, hx] at h
  obtain ⟨z, h⟩ := cW_grd h
  exact ⟨z, cW_call h (fun _ z => z) fun _ z => z⟩
theorem cW_mapA0 {K : List α → Prop} {xs : List β} {acc : List α} {n : Nat} {f : β → Rx α} (hn : n = xs.length) (h : cW (mapA (xs.drop n) acc f) K E) : K acc := by
  subst hn
  rw [List.drop_length] at h
  exact cW_ok h
theorem cW_mapF {K : List α → Prop} {xs : List β} {acc : List α} {i : Nat} {x : β} {f : β → Rx (Option α)} (hx : xs[i]? = some x) (h : cW (mapF (xs.drop i) acc f) K E) :
    acc.length ≤ 1000000 ∧ cW (f x) (fun y => match y with | some z => cW (mapF (xs.drop (i + 1)) (acc ++ [z]) f) K E | none => cW (mapF (xs.drop (i + 1)) acc f) K E) E := by
  rw [List.drop_eq_getElem?_toList_append, hx] at h
  obtain ⟨z, h⟩ := cW_grd h
  refine ⟨z, cW_call h (fun y z => ?_) fun _ z => z⟩
  cases y with
  | none => exact z
  | some w => exact z
theorem cW_mapF0 {K : List α → Prop} {xs : List β} {acc : List α} {n : Nat} {f : β → Rx (Option α)} (hn : n = xs.length) (h : cW (mapF (xs.drop n) acc f) K E) : K acc := by
  subst hn
  rw [List.drop_length] at h
  exact cW_ok h
end
/-- the numbers of a range -/
def rng (lo : Int) (n : Nat) : List Int := (List.range n).map fun (j : Nat) => lo + (j : Int)
theorem rng_get {lo : Int} {n i : Nat} (h : i < n) : (rng lo n)[i]? = some (lo + (i : Int)) := by
  unfold rng
  rw [List.getElem?_map, List.getElem?_range h] <;> rfl
theorem rng_len (lo : Int) (n : Nat) : (rng lo n).length = n := by
  unfold rng
  rw [List.length_map, List.length_range]

def rngD (lo : Int) (n : Nat) : List Int := (List.range n).map fun (j : Nat) => lo + (j : Int) * (-1)
theorem rngD_get {lo : Int} {n i : Nat} (h : i < n) : (rngD lo n)[i]? = some (lo + (i : Int) * (-1)) := by
  unfold rngD
  rw [List.getElem?_map, List.getElem?_range h] <;> rfl
theorem rngD_len (lo : Int) (n : Nat) : (rngD lo n).length = n := by
  unfold rngD
  rw [List.length_map, List.length_range]

/-! ### calls that may raise -/
/-- what a call with n values and keywords ks gives the parameters -/
structure Bnd (K : PySem.W.Frag) (fd : FuncData) (ps : List Str) (n : Nat) (ks : List Str) (g : List V → List V → List V) : Prop where
  to : ∀ (s : Shared) (us ws : List Value) (vs zs : List V), K.In s.heap → vs.length = n → zs.length = ks.length → Vals vs us → Vals zs ws → ∃ vv : List Value, BindsTo s fd ⟨us, ks.zip ws⟩ (ps.zip vv) ∧ Vals (g vs zs) vv
theorem Bnd.of_kbn {K : PySem.W.Frag} {fd : FuncData} {ps ks : List Str} {n : Nat} {g : List Value → List Value → List Value} {gV : List V → List V → List V} (b : KBn K fd ps n ks g gV) : Bnd K fd ps n ks gV :=
  ⟨fun s us ws vs zs X l1 l2 r rz => ⟨g us ws, b.to s us ws X (r.length.symm.trans l1) (rz.length.symm.trans l2), b.rel r rz⟩⟩
theorem Bnd.all {K : PySem.W.Frag} {fd : FuncData} {ps ks : List Str} {n : Nat} {g : List V → List V → List V} (h : ∀ (us ws : List Value) (vs zs : List V), vs.length = n → zs.length = ks.length → Vals vs us → Vals zs ws →
    ∃ vv : List Value, bindArgs fd ⟨us, ks.zip ws⟩ = pure (ps.zip vv) ∧ Vals (g vs zs) vv) : Bnd K fd ps n ks g :=
  ⟨fun s us ws vs zs _ l1 l2 r rz => by
    obtain ⟨vv, e, q⟩ := h us ws vs zs l1 l2 r rz
    exact ⟨vv, BindsTo.of_eq e, q⟩⟩
abbrev Pat := Nat × List Str × (List V → List V → List V)
def Bnd1 (K : PySem.W.Frag) (fd : FuncData) (ps : List Str) (p : Pat) : Prop := Bnd K fd ps p.1 p.2.1 p.2.2
section
variable {P : Program} {w : World} {K : PySem.W.Frag} {mg : Str → Option Value} {base : Heap}
/-- a def of the top, with the ways it is called -/
structure DefX (K : PySem.W.Frag) (mg : Str → Option Value) (x : Str) (st : Stmt) (ps : List Str) (pats : List Pat) : Prop where
  ex : ∃ (f : Addr) (fd : FuncData) (dvs : List V) (kws : List (Str × V)), FunD K x x (defArgs st) (defBody st) (defScope st) dvs kws f fd ∧ mg x = some (.ref f) ∧ ∀ p ∈ pats, Bnd1 K fd ps p
structure CalX (P : Program) (w : World) (K : PySem.W.Frag) (mg : Str → Option Value) (base : Heap) (k : Nat) (x : Str) (sp : Sp) (pats : List Pat) : Prop where
  ex : ∃ (f : Addr) (fd : FuncData) (ps : List Str), FnG P w K mg base (L2.CX P w) k f fd ps sp ∧ mg x = some (.ref f) ∧ PySem.W.keepIn K (.ref f) = true ∧ ∀ p ∈ pats, Bnd1 K fd ps p
abbrev BodyX (P : Program) (w : World) (K : PySem.W.Frag) (mg : Str → Option Value) (base : Heap) (x : Str) (st : Stmt) (N : List Str) (k : Nat) (sp : Sp) : Prop :=
  ∀ (f : Addr) (cdv : Value) (A : Around) (outer : List Env) (s : Shared) (H : Hp) (vs : List V) (Q : VK) (E : XK), RoomG k (A.deeper (envOfC x (defScope st) s.heap.objs.size f cdv)) → sp vs H Q E →
    ∃ t, PSs (cxOf (L2.CX P w) P w K mg base N x (defScope st) f cdv A outer s H E) (defBody st) t ∧ t { nx := fun _ H' => Q .non H', rt := Q } (start N vs) H
theorem DefX.ok {x : Str} {st : Stmt} {N ps : List Str} {pats : List Pat} {k : Nat} {sp : Sp} (D : DefX K mg x st ps pats) (S : FnScope N ps (defScope st)) (len : ∀ vs H Q E, sp vs H Q E → vs.length = ps.length)
    (hbody : BodyX P w K mg base x st N k sp) : CalX P w K mg base (k + 1) x sp pats := by
  obtain ⟨f, fd, dvs, kws, F, hm, b⟩ := D.ex
  exact ⟨f, fd, ps, FnG.body F S len (fun cdv A outer s H vs Q E hr h => hbody f cdv A outer s H vs Q E hr h), hm, F.kp, b⟩
end
section
variable {X : Cx} {k j n : Nat} {f : Addr} {fd : FuncData} {ps ks : List Str} {g : List V → List V → List V} {sp : Sp} {x : Str} {pos p : Pos} {e : Expr} {es : List Expr} {kws : List Keyword} {t tk : TA} {W : WX}
theorem run_X {pins : List (Addr × Obj)} {σ : L2.St} {H : Hp} {s : Shared} {Q : VK} {us ws : List Value} {vs zs : List V} (F : FnG X.prog X.w X.K X.mg X.base (L2.CX X.prog X.w) k f fd ps sp) (hr : RoomG k X.A) (hb : Bnd X.K fd ps n ks g) (tkW : Takes X W)
    (I : Inv X pins σ H s) (r : Vals vs us) (rz : Vals zs ws) (l1 : vs.length = n) (l2 : zs.length = ks.length) (h : sp (g vs zs) H Q (WE W σ)) :
    wpAny (model X.prog X.w) X.A (call (.ref f) us (ks.zip ws)) (EP X pins σ Q) X.xe s := by
  obtain ⟨vv, b, r2⟩ := hb.to s us ws vs zs I.kIn l1 l2 r rz
  refine wpAny_call (codeAny_mono (F.run X.A X.stack s H ⟨us, ks.zip ws⟩ vv (g vs zs) Q (WE W σ) hr I.env0 b r2 h) fun rr s' hq => ?_)
  cases rr with
  | error er => exact passAt tkW σ pins H s er s' I hq
  | ok fl =>
    cases fl with
    | ret u => exact I.after hq
    | next => exact hq.elim
    | brk => exact hq.elim
    | cont => exact hq.elim
/-- f(e, .., k = v, ..) -/
def tCallX (n m : Nat) (sp : Sp) (g : List V → List V → List V) (W : WX) (t tk : TA) : TE := fun σ H Q => t σ H fun vs H1 => tk σ H1 fun zs H2 => vs.length = n ∧ zs.length = m ∧ sp (g vs zs) H2 Q (WE W σ)
theorem vx_callX {pats : List Pat} (c : CalX X.prog X.w X.K X.mg X.base k x sp pats) (pt : Pat) (hpt : pt ∈ pats) (hr : RoomG j X.A) (hk : k ≤ j) (tkW : Takes X W) (hg : Gl X x) (ha : PA X (e :: es) t) (hkw : PK X kws tk)
    (hall : (backToKw pos (keywordEach kws X.env)).all (·.1.isSome) = true := by rfl) (hks : (backToKw pos (keywordEach kws X.env)).filterMap (·.1) = pt.2.1 := by rfl)
    (hdb : (x == ("__debug__" : Str)) = false := by decide) (he : starEach (e :: es) X.env = (false, eval e X.env) :: starEach es X.env := by rfl)
    (hpl : ((backTo pos (starEach (e :: es) X.env)).any (·.1) || (backToKw pos (keywordEach kws X.env)).any (·.1.isNone)) = false := by rfl) :
    PE X (.Call (.Name x p) (e :: es) kws pos) (tCallX pt.1 pt.2.1.length sp pt.2.2 W t tk) := by
  obtain ⟨f, fd, ps, F, hm, kp, b⟩ := c.ex
  refine ⟨fun pins s σ H Q I h => ?_⟩
  refine wpAny_Call_Name_kw (ld_glob I hg hm ?_ hdb)
  refine PySem.W.callWith_KW (h₀ := X.base) I.ok.mod.kin kp hall (thn (ha.run pos pins s σ H _ I h) fun us s1 ⟨vs, H1, I1, r, q⟩ => ?_) hpl he
  refine thn (hkw.run pos pins s1 σ H1 _ I1 q) fun ws s2 ⟨zs, H2, I2, rz, l1, l2, q2⟩ => ⟨I2.kIn, ?_⟩
  rw [hks]
  exact run_X F (hr.low hk) (b pt hpt) tkW I2 r rz l1 l2 q2
theorem vx_callX0 {pats : List Pat} (c : CalX X.prog X.w X.K X.mg X.base k x sp pats) (pt : Pat) (hpt : pt ∈ pats) (hr : RoomG j X.A) (hk : k ≤ j) (tkW : Takes X W) (hg : Gl X x) (hks : pt.2.1 = [] := by rfl)
    (hdb : (x == ("__debug__" : Str)) = false := by decide) : PE X (.Call (.Name x p) [] [] pos) (tCallX pt.1 pt.2.1.length sp pt.2.2 W tNil tNil) := by
  obtain ⟨f, fd, ps, F, hm, kp, b⟩ := c.ex
  refine ⟨fun pins s σ H Q I h => ?_⟩
  refine wpAny_Call_Name_kw (ld_glob I hg hm ?_ hdb)
  obtain ⟨l1, l2, q2⟩ := h
  have hz := run_X (us := []) (ws := []) F (hr.low hk) (b pt hpt) tkW I .nil .nil l1 l2 q2
  rw [hks] at hz
  exact PySem.W.callWith_K0 I.kIn kp hz
end
/-! ### borrowed things -/
theorem Sep.bM {M : List Addr} {H0 G0 G H : Hp} {O : List (Addr)} (S : Sep M H0 G0 G H O) : Same (hideL M H0) H := fun b o e => by
  by_cases h : b ∈ M
  · rw [hideL_in h] at e
    cases e
  · rw [hideL_out h] at e
    exact S.base b o e h
theorem b_ne {M : List Addr} {H0 G0 G H : Hp} {O : List Addr} {a b : Addr} {o : HO} (h : (hideL M H0) a = some o) (S : Sep M H0 G0 G H O) (hb : b ∈ O) : a ≠ b := fun z => by
  subst z
  rcases (S.ow a hb).2.2 with q | q
  · rw [hideL_in q] at h
    cases h
  · by_cases hM : a ∈ M
    · rw [hideL_in hM] at h
      cases h
    · rw [hideL_out hM, q] at h
      cases h
theorem hide0 {H : Hp} : hideL [] H = H := by
  funext b
  unfold hideL
  rw [if_neg List.not_mem_nil]
theorem hide_nil {H : Hp} {a : Addr} {o : HO} (h : H a = some o) : (hideL [] H) a = some o := by
  rw [hide0]
  exact h
theorem Rp.hide_nil {H : Hp} {v : V} {d : PyData} (h : Rp H v d) : Rp (hideL [] H) v d := by
  rw [hide0]
  exact h
theorem Sep.startM {M : List Addr} {G H : Hp} (e : Same G H) (hM : ∀ a ∈ M, H a ≠ none) (hG : ∀ a ∈ M, G a = none) : Sep M H G G H M :=
  ⟨fun _ _ e _ => e, hM, e, Same.refl _, fun _ _ e => e, fun a ha => ⟨hG a ha, hM a ha, .inl ha⟩⟩
theorem Sep.gno {M : List Addr} {H0 G0 G H : Hp} {O L : List Addr} (S : Sep M H0 G0 G H O) (h : ∀ a ∈ L, a ∈ O) : ∀ a ∈ L, G a = none := fun a ha => (S.ow a (h a ha)).1
theorem RpAll.ixD {α : Type} [Inhabited α] {f : α → PyData} {H : Hp} {vs : List V} {xs : List α} {k : Int} (r : RpAll H vs (xs.map f)) (h : -(xs.length : Int) ≤ k ∧ k < xs.length) : ∃ v, atI vs k = some v ∧ Rp H v (f (itD xs k)) := by
  obtain ⟨v, x, h1, h2, h3⟩ := RpAll.ix r h
  refine ⟨v, h1, ?_⟩
  unfold itD
  rw [h2]
  exact h3
theorem tru_all {α : Type} [DecidableEq α] {f : α → PyData} {H : Hp} {vs : List V} {xs : List α} (r : RpAll H vs (xs.map f)) : (!decide (xs = [])) = !vs.isEmpty := by
  have h := r.len
  rw [List.length_map] at h
  cases xs <;> cases vs <;> simp_all
theorem ix_nn {α : Type} {xs : List α} {k : Int} (h0 : 0 ≤ k) (h1 : k < xs.length) : -(xs.length : Int) ≤ k ∧ k < xs.length := ⟨by omega, h1⟩
theorem all_nilQ {α : Type} {P : α → Prop} : ∀ x ∈ ([] : List α), P x := fun x h => by cases h
theorem all_consQ {α : Type} {P : α → Prop} {a : α} {l : List α} (h : P a) (t : ∀ x ∈ l, P x) : ∀ x ∈ a :: l, P x := fun x hx => by
  rcases List.mem_cons.mp hx with rfl | hx
  · exact h
  · exact t x hx
theorem mem_one {a b : Nat} (h : a ∈ [b]) : a = b := by simpa using h
theorem mem_cons2 {a b : Nat} {l : List Nat} (h : a ∈ b :: l) : a = b ∨ a ∈ l := List.mem_cons.mp h
theorem len0 {α : Type} {l : List α} (h : l.length = 0) : l = [] := List.length_eq_zero_iff.mp h
theorem len1 {α : Type} {l : List α} (h : l.length = 1) : ∃ a, l = [a] := List.length_eq_one_iff.mp h
theorem len_s {α : Type} {l : List α} {n : Nat} (h : l.length = n + 1) : ∃ a r, l = a :: r ∧ r.length = n := by
  cases l with
  | nil => cases h
  | cons a r => exact ⟨a, r, rfl, Nat.succ.inj h⟩
theorem len2 {α : Type} {l : List α} (h : l.length = 2) : ∃ a b, l = [a, b] := by
  obtain ⟨a, r, rfl, h2⟩ := len_s h
  obtain ⟨b, rfl⟩ := len1 h2
  exact ⟨a, b, rfl⟩
theorem len3 {α : Type} {l : List α} (h : l.length = 3) : ∃ a b c, l = [a, b, c] := by
  obtain ⟨a, r, rfl, h2⟩ := len_s h
  obtain ⟨b, c, rfl⟩ := len2 h2
  exact ⟨a, b, c, rfl⟩
theorem len4 {α : Type} {l : List α} (h : l.length = 4) : ∃ a b c d, l = [a, b, c, d] := by
  obtain ⟨a, r, rfl, h2⟩ := len_s h
  obtain ⟨b, c, d, rfl⟩ := len3 h2
  exact ⟨a, b, c, d, rfl⟩
theorem len5 {α : Type} {l : List α} (h : l.length = 5) : ∃ a b c d e, l = [a, b, c, d, e] := by
  obtain ⟨a, r, rfl, h2⟩ := len_s h
  obtain ⟨b, c, d, e, rfl⟩ := len4 h2
  exact ⟨a, b, c, d, e, rfl⟩
theorem len6 {α : Type} {l : List α} (h : l.length = 6) : ∃ a b c d e f, l = [a, b, c, d, e, f] := by
  obtain ⟨a, r, rfl, h2⟩ := len_s h
  obtain ⟨b, c, d, e, f, rfl⟩ := len5 h2
  exact ⟨a, b, c, d, e, f, rfl⟩
theorem len7 {α : Type} {l : List α} (h : l.length = 7) : ∃ a b c d e f g, l = [a, b, c, d, e, f, g] := by
  obtain ⟨a, r, rfl, h2⟩ := len_s h
  obtain ⟨b, c, d, e, f, g, rfl⟩ := len6 h2
  exact ⟨a, b, c, d, e, f, g, rfl⟩
def rLenTK (K : PySem.W.Frag) : List V → Hp → VK → Prop := fun xs H Q => ∃ (p : Addr) (vs : List V) (n : Nat), xs = [.ref p] ∧ SqT K H p vs ∧ vs.length = n ∧ Q (.int (n : Int)) H
theorem call_lenTK {X : Cx} {K : PySem.W.Frag} (hK : X.K = K := by rfl) : CallR X (.builtin "len") (rLenTK K) := by
  subst hK
  intro pins s σ H xs us Q I r h
  obtain ⟨p, vs, n, rfl, hs, hn, q⟩ := h
  exact call_len_seq pins s σ H _ us Q I r ⟨p, _, rfl, Or.inr hs, by rw [hn]; exact q⟩
theorem exm_mk {K : PySem.W.Frag} {S C : Addr} (h1 : PySem.W.subIn K (.ref C) (.type "BaseException") = some true) (h2 : PySem.W.isClsIn K C = true) (h3 : PySem.W.typeIn K (.ref C) = some (.type "type")) (h4 : PySem.W.subIn K (.ref S) (.ref C) = some true) :
    PySem.W.exmOne K (.ref S) (.ref C) = some true := by
  unfold PySem.W.isClsIn at h2
  unfold PySem.W.exmOne
  unfold PySem.W.kitCls
  simp only [h1, h2, h3, h4, beq_self_eq_true, Bool.and_self, if_true]
theorem kit_mk {K : PySem.W.Frag} {S C : Addr} (h2 : PySem.W.isClsIn K C = true) (h3 : PySem.W.typeIn K (.ref C) = some (.type "type")) (h4 : PySem.W.subIn K (.ref S) (.ref C) = some true) :
    PySem.W.kitOne K (.ref S) (.ref C) = some true := by
  unfold PySem.W.isClsIn at h2
  unfold PySem.W.kitOne
  split
  · rfl
  · unfold PySem.W.kitCls
    simp only [h2, h3, h4, beq_self_eq_true, Bool.and_self, if_true]
/-- isinstance(e, C) of the exception in hand -/
def rIsX (K : PySem.W.Frag) (a : Addr) (cls : Value) (d : Option Addr) : List V → Hp → VK → Prop := fun xs H Q => ∃ (D C : Addr) (b : Bool), cls = .ref D ∧ d = none ∧ ExcC K D ∧ xs = [.ref a, .ref C] ∧ PySem.W.kitOne K (.ref D) (.ref C) = some b ∧ Q (.bl b) H
theorem call_isX {X : Cx} {K : PySem.W.Frag} {a : Addr} {cls : Value} {d : Option Addr} {oe : Obj} {pn : List (Addr × Obj)} (hz : Zc cls d oe) (hf : ∃ vs, oe.data = .fields vs) (hK : X.K = K := by rfl) : CallR (X.suite a ((a, oe) :: pn)) (.builtin "isinstance") (rIsX K a cls d) := by
  subst hK
  intro pins s σ H xs us Q I r h
  obtain ⟨D, C, b, rfl, rfl, c, rfl, e, q⟩ := h
  exact call_isE c hz hf pins s σ H _ us Q I r ⟨_, _, b, rfl, fun u z => z, e, q⟩
/-! ### unpacking a list -/
section
variable {X : Cx} {K : PySem.W.Frag} {pos : Pos}
theorem pg_seqK {es : List Expr} {k : Nat} {t : TGs} {n : Nat} (h : PGs X es t) (hc : X.calm = true := by rfl) (hK : X.K = K := by rfl)
    (hn : (assignEach es X.env).length = n := by rfl) (hst : (assignEach es X.env).findIdx? (·.1) = none := by rfl) : PG X (.Tuple es k pos) (gLst K n t) := hK ▸ pg_lst hc h hn hst
end
theorem SqL.cast {K : PySem.W.Frag} {H : Hp} {a : Addr} {xs ys : List V} (h : SqL K H a xs) (e : xs = ys) : SqL K H a ys := e ▸ h
section
variable {α : Type} [Inhabited α] {f : α → V}
theorem unp2 {xs : List α} (h : xs.length = 2) : xs.map f = [f (itD xs 0), f (itD xs 1)] := by
  obtain ⟨a, b, rfl⟩ := len2 h
  rfl
theorem unp3 {xs : List α} (h : xs.length = 3) : xs.map f = [f (itD xs 0), f (itD xs 1), f (itD xs 2)] := by
  obtain ⟨a, b, c, rfl⟩ := len3 h
  rfl
theorem unp4 {xs : List α} (h : xs.length = 4) : xs.map f = [f (itD xs 0), f (itD xs 1), f (itD xs 2), f (itD xs 3)] := by
  obtain ⟨a, b, c, d, rfl⟩ := len4 h
  rfl
theorem unp6 {xs : List α} (h : xs.length = 6) : xs.map f = [f (itD xs 0), f (itD xs 1), f (itD xs 2), f (itD xs 3), f (itD xs 4), f (itD xs 5)] := by
  obtain ⟨a, b, c, d, e, g, rfl⟩ := len6 h
  rfl
theorem unp8 {xs : List α} (h : xs.length = 8) : xs.map f = [f (itD xs 0), f (itD xs 1), f (itD xs 2), f (itD xs 3), f (itD xs 4), f (itD xs 5), f (itD xs 6), f (itD xs 7)] := by
  obtain ⟨a, r, rfl, h2⟩ := len_s h
  obtain ⟨b, c, d, e, g, i, j, rfl⟩ := len7 h2
  rfl
end
/-! ### classes -/
section
variable {P : Program} {w : World} {K : PySem.W.Frag} {mg : Str → Option Value} {base : Heap}
structure MethX (K : PySem.W.Frag) (C : Addr) (q m : Str) (st : Stmt) (ps : List Str) (pats : List Pat) : Prop where
  ex : ∃ (f : Addr) (fd : FuncData) (dvs : List V) (kws : List (Str × V)), FunD K m q (defArgs st) (defBody st) (defScope st) dvs kws f fd ∧ Meth K C m f ∧ ∀ p ∈ pats, Bnd1 K fd ps p
structure InitX (K : PySem.W.Frag) (mg : Str → Option Value) (C : Addr) (cn q : Str) (st : Stmt) (ps : List Str) (pats : List Pat) : Prop where
  ex : ∃ (f : Addr) (fd : FuncData) (dvs : List V) (kws : List (Str × V)), FunD K "__init__" q (defArgs st) (defBody st) (defScope st) dvs kws f fd ∧ Mk K C f ∧ mg cn = some (.ref C) ∧ ∀ p ∈ pats, Bnd1 K fd ps p
structure PropX (K : PySem.W.Frag) (C : Addr) (q m : Str) (st : Stmt) (ps : List Str) (pats : List Pat) : Prop where
  ex : ∃ (r f : Addr) (fd : FuncData) (dvs : List V) (kws : List (Str × V)), FunD K m q (defArgs st) (defBody st) (defScope st) dvs kws f fd ∧ PropOf K C m r f ∧ Binds K fd ps []
structure MetX (P : Program) (w : World) (K : PySem.W.Frag) (mg : Str → Option Value) (base : Heap) (k : Nat) (C : Addr) (m : Str) (sp : Sp) (pats : List Pat) : Prop where
  ex : ∃ (f : Addr) (fd : FuncData) (ps : List Str), Cls K C ∧ Meth K C m f ∧ FnG P w K mg base (L2.CX P w) k f fd ps sp ∧ ∀ p ∈ pats, Bnd1 K fd ps p
structure PropY (P : Program) (w : World) (K : PySem.W.Frag) (mg : Str → Option Value) (base : Heap) (k : Nat) (C : Addr) (m : Str) (sp : Sp) (pats : List Pat) : Prop where
  ex : ∃ (q f : Addr) (fd : FuncData) (ps : List Str), Cls K C ∧ PropOf K C m q f ∧ FnG P w K mg base (L2.CX P w) k f fd ps sp ∧ Binds K fd ps []
structure MakX (P : Program) (w : World) (K : PySem.W.Frag) (mg : Str → Option Value) (base : Heap) (k : Nat) (cn : Str) (C : Addr) (sp : Sp) (pats : List Pat) : Prop where
  ex : ∃ (f : Addr) (fd : FuncData) (ps : List Str), Mk K C f ∧ FnG P w K mg base (L2.CX P w) k f fd ps sp ∧ mg cn = some (.ref C) ∧ ∀ p ∈ pats, Bnd1 K fd ps p
theorem MethX.ok {C : Addr} {q m : Str} {st : Stmt} {N ps : List Str} {pats : List Pat} {k : Nat} {sp : Sp} (D : MethX K C q m st ps pats) (c : Cls K C) (S : FnScope N ps (defScope st)) (len : ∀ vs H Q E, sp vs H Q E → vs.length = ps.length)
    (hbody : BodyX P w K mg base q st N k sp) : MetX P w K mg base (k + 1) C m sp pats := by
  obtain ⟨f, fd, dvs, kws, F, me, b⟩ := D.ex
  exact ⟨f, fd, ps, c, me, FnG.body F S len (fun cdv A outer s H vs Q E hr h => hbody f cdv A outer s H vs Q E hr h), b⟩
theorem PropX.ok {C : Addr} {q m : Str} {st : Stmt} {N ps : List Str} {pats : List Pat} {k : Nat} {sp : Sp} (D : PropX K C q m st ps pats) (c : Cls K C) (S : FnScope N ps (defScope st)) (len : ∀ vs H Q E, sp vs H Q E → vs.length = ps.length)
    (hbody : BodyX P w K mg base q st N k sp) : PropY P w K mg base (k + 1) C m sp pats := by
  obtain ⟨r, f, fd, dvs, kws, F, me, b⟩ := D.ex
  exact ⟨r, f, fd, ps, c, me, FnG.body F S len (fun cdv A outer s H vs Q E hr h => hbody f cdv A outer s H vs Q E hr h), b⟩
theorem InitX.ok {C : Addr} {cn q : Str} {st : Stmt} {N ps : List Str} {pats : List Pat} {k : Nat} {sp : Sp} (D : InitX K mg C cn q st ps pats) (S : FnScope N ps (defScope st)) (len : ∀ vs H Q E, sp vs H Q E → vs.length = ps.length)
    (hbody : BodyX P w K mg base q st N k sp) : MakX P w K mg base (k + 1) cn C sp pats := by
  obtain ⟨f, fd, dvs, kws, F, me, hm, b⟩ := D.ex
  exact ⟨f, fd, ps, me, FnG.body F S len (fun cdv A outer s H vs Q E hr h => hbody f cdv A outer s H vs Q E hr h), hm, b⟩
end
theorem cW_callN {α β : Type} {m : Rx β} {f : β → Rx α} {K : α → Prop} {E : Nat → Prop} {K2 : β → Prop} {E2 : Nat → Prop} (h : cW ((noEr m).bind f) K E) (ho : ∀ v, cW (f v) K E → K2 v) (_ : True) : cW m K2 E2 := by
  cases m with
  | ok a => exact cW_mk (ho a h)
  | er e => exact cW_bad (α := α) h
  | bad => exact cW_bad (α := α) h
section
variable {X : Cx} {k j n : Nat} {f C : Addr} {fd : FuncData} {ps ks : List Str} {g : List V → List V → List V} {sp : Sp} {x m : Str} {pos p apos : Pos} {e o : Expr} {es : List Expr} {kws : List Keyword} {ta : TE} {t tk : TA} {W : WX}
theorem run_mkX {pins : List (Addr × Obj)} {σ : L2.St} {H : Hp} {s : Shared} {Q : VK} {us ws : List Value} {vs zs : List V} (M : Mk X.K C f) (F : FnG X.prog X.w X.K X.mg X.base (L2.CX X.prog X.w) k f fd ps sp) (hr : RoomG (k + 1) X.A) (hb : Bnd X.K fd ps n ks g) (tkW : Takes X W)
    (I : Inv X pins σ H s) (r : Vals vs us) (rz : Vals zs ws) (l1 : vs.length + 1 = n) (l2 : zs.length = ks.length)
    (h : ∀ x dx, H x = none → H dx = none → dx ≠ x → sp (g (.ref x :: vs) zs) (upd (upd H dx (.own x)) x (.ins C dx [])) (fun v H2 => v = .non ∧ Q (.ref x) H2) (WE W σ)) :
    wpAny (model X.prog X.w) X.A (call (.ref C) us (ks.zip ws)) (EP X pins σ Q) X.xe s := by
  have hq := h (s.heap.objs.size + 1) s.heap.objs.size (I.hok.fresh (Nat.le_succ _)) (I.hok.fresh (Nat.le_refl _)) (Nat.ne_of_lt (Nat.lt_succ_self _))
  have I2 := Inv.made (C := C) I
  have r1 : Vals (V.ref (s.heap.objs.size + 1) :: vs) (Value.ref (s.heap.objs.size + 1) :: us) := .cons rfl r
  obtain ⟨vv, b, r2⟩ := hb.to _ (Value.ref (s.heap.objs.size + 1) :: us) ws (V.ref (s.heap.objs.size + 1) :: vs) zs I2.kIn (by rw [List.length_cons, l1]) l2 r1 rz
  refine wpAny_call (make_map (f := f) I.kIn M.makes M.init (beq_iff_eq.mp M.fn) (codeAny_mono (F.run _ X.stack _ _ ⟨Value.ref (s.heap.objs.size + 1) :: us, ks.zip ws⟩ vv _ _ (WE W σ) (hr.made C us (ks.zip ws))
    (I2.env0.make C us (ks.zip ws)) b r2 hq) fun r s' hq' => ?_))
  cases r with
  | error e => exact passAt tkW σ pins _ _ e s' I2 hq'
  | ok fl =>
    cases fl with
    | ret u =>
      obtain ⟨v, H', I3, rv, ev, q3⟩ := I2.after hq'
      subst ev
      exact ⟨rv, ⟨V.ref (s.heap.objs.size + 1), H', I3, rfl, q3⟩⟩
    | next => exact False.elim hq'
    | brk => exact False.elim hq'
    | cont => exact False.elim hq'
/-- C(e, .., k = v, ..) -/
def tMakeX (C : Addr) (n m : Nat) (sp : Sp) (g : List V → List V → List V) (W : WX) (t tk : TA) : TE := fun σ H Q => t σ H fun vs H1 => tk σ H1 fun zs H2 => vs.length + 1 = n ∧ zs.length = m ∧ ∀ x dx, H2 x = none → H2 dx = none → dx ≠ x →
  sp (g (.ref x :: vs) zs) (upd (upd H2 dx (.own x)) x (.ins C dx [])) (fun v H3 => v = .non ∧ Q (.ref x) H3) (WE W σ)
theorem vx_makeX {pats : List Pat} (c : MakX X.prog X.w X.K X.mg X.base k x C sp pats) (pt : Pat) (hpt : pt ∈ pats) (hr : RoomG j X.A) (hk : k + 1 ≤ j) (tkW : Takes X W) (hg : Gl X x) (ha : PA X (e :: es) t) (hkw : PK X kws tk)
    (hall : (backToKw pos (keywordEach kws X.env)).all (·.1.isSome) = true := by rfl) (hks : (backToKw pos (keywordEach kws X.env)).filterMap (·.1) = pt.2.1 := by rfl) (hdb : (x == ("__debug__" : Str)) = false := by decide)
    (he : starEach (e :: es) X.env = (false, eval e X.env) :: starEach es X.env := by rfl) (hpl : ((backTo pos (starEach (e :: es) X.env)).any (·.1) || (backToKw pos (keywordEach kws X.env)).any (·.1.isNone)) = false := by rfl) :
    PE X (.Call (.Name x p) (e :: es) kws pos) (tMakeX C pt.1 pt.2.1.length sp pt.2.2 W t tk) := by
  obtain ⟨f, fd, ps, M, F, hm, b⟩ := c.ex
  refine ⟨fun pins s σ H Q I h => ?_⟩
  refine wpAny_Call_Name_kw (ld_glob I hg hm ?_ hdb)
  refine PySem.W.callWith_KW (h₀ := X.base) I.ok.mod.kin M.kp hall (thn (ha.run pos pins s σ H _ I h) fun us s1 ⟨vs, H1, I1, r, q⟩ => ?_) hpl he
  refine thn (hkw.run pos pins s1 σ H1 _ I1 q) fun ws s2 ⟨zs, H2, I2, rz, l1, l2, q2⟩ => ⟨I2.kIn, ?_⟩
  rw [hks]
  exact run_mkX M F (hr.low hk) (b pt hpt) tkW I2 r rz l1 l2 q2
theorem vx_makeX0 {pats : List Pat} (c : MakX X.prog X.w X.K X.mg X.base k x C sp pats) (pt : Pat) (hpt : pt ∈ pats) (hr : RoomG j X.A) (hk : k + 1 ≤ j) (tkW : Takes X W) (hg : Gl X x) (hks : pt.2.1 = [] := by rfl)
    (hdb : (x == ("__debug__" : Str)) = false := by decide) : PE X (.Call (.Name x p) [] [] pos) (tMakeX C pt.1 pt.2.1.length sp pt.2.2 W tNil tNil) := by
  obtain ⟨f, fd, ps, M, F, hm, b⟩ := c.ex
  refine ⟨fun pins s σ H Q I h => ?_⟩
  refine wpAny_Call_Name_kw (ld_glob I hg hm ?_ hdb)
  obtain ⟨l1, l2, q2⟩ := h
  have hz := run_mkX (us := []) (ws := []) M F (hr.low hk) (b pt hpt) tkW I .nil .nil l1 l2 q2
  rw [hks] at hz
  exact PySem.W.callWith_K0 I.kIn M.kp hz
/-- o.m(e, .., k = v, ..) -/
def tMethX (C : Addr) (m : Str) (n mm : Nat) (sp : Sp) (g : List V → List V → List V) (W : WX) (ta : TE) (t tk : TA) : TE := fun σ H Q => ta σ H fun x H1 => ∃ a dx fs, x = .ref a ∧ H1 a = some (.ins C dx fs) ∧ fs.lookup m = none ∧
  t σ H1 fun vs H2 => tk σ H2 fun zs H3 => (x :: vs).length = n ∧ zs.length = mm ∧ sp (g (x :: vs) zs) H3 Q (WE W σ)
theorem vx_methX {pats : List Pat} {pl : Sem Bool} (c : MetX X.prog X.w X.K X.mg X.base k C m sp pats) (pt : Pat) (hpt : pt ∈ pats) (hr : RoomG j X.A) (hk : k ≤ j) (tkW : Takes X W) (he : PE X o ta) (ha : PA X (e :: es) t) (hkw : PK X kws tk)
    (hall : (backToKw pos (keywordEach kws X.env)).all (·.1.isSome) = true := by rfl) (hks : (backToKw pos (keywordEach kws X.env)).filterMap (·.1) = pt.2.1 := by rfl)
    (hst : starEach (e :: es) X.env = (false, eval e X.env) :: starEach es X.env := by rfl) (hpl : ((backTo pos (starEach (e :: es) X.env)).any (·.1) || (backToKw pos (keywordEach kws X.env)).any (·.1.isNone)) = false := by rfl)
    (ht : eval (.Call (.Attribute o m apos) (e :: es) kws pos) X.env = (do
      let ov ← eval o X.env
      standAt apos.atName
      let (f, first) ← holding [ov] (getMethod ov m pl)
      callWith pos f first (backTo pos (starEach (e :: es) X.env)) (backToKw pos (keywordEach kws X.env))) := by rfl) :
    PE X (.Call (.Attribute o m apos) (e :: es) kws pos) (tMethX C m pt.1 pt.2.1.length sp pt.2.2 W ta t tk) := by
  obtain ⟨f, fd, ps, hc, hm, F, b⟩ := c.ex
  refine ⟨fun pins s σ H Q I h => ?_⟩
  refine PySem.W.methodCall_KW (pl := pl) (thn (he.run pins s σ H _ I h) fun u s1 ⟨x, H1, I1, rx, a, dx, fs, ex, ea, l, q⟩ => ?_) ht
  subst ex
  obtain rfl : u = Value.ref a := rx
  refine getmeth_ok I1 ea hc hm l ?_
  refine PySem.W.callWith_KW (first := [.ref a]) (h₀ := X.base) I.ok.mod.kin hm.kp hall (thn (ha.run pos pins s1 σ H1 _ I1 q) fun us s2 ⟨vs, H2, I2, r, q2⟩ => ?_) hpl hst
  refine thn (hkw.run pos pins s2 σ H2 _ I2 q2) fun ws s3 ⟨zs, H3, I3, rz, l1, l2, q3⟩ => ⟨I3.kIn, ?_⟩
  rw [hks]
  exact run_X (us := .ref a :: us) (vs := .ref a :: vs) F (hr.low hk) (b pt hpt) tkW I3 (.cons rfl r) rz l1 l2 q3
theorem vx_methX0 {pats : List Pat} {pl : Sem Bool} (c : MetX X.prog X.w X.K X.mg X.base k C m sp pats) (pt : Pat) (hpt : pt ∈ pats) (hr : RoomG j X.A) (hk : k ≤ j) (tkW : Takes X W) (he : PE X o ta) (hks : pt.2.1 = [] := by rfl)
    (ht : eval (.Call (.Attribute o m apos) [] [] pos) X.env = (do
      let ov ← eval o X.env
      standAt apos.atName
      let (f, first) ← holding [ov] (getMethod ov m pl)
      callWith pos f first (backTo pos (starEach [] X.env)) (backToKw pos (keywordEach [] X.env))) := by rfl) :
    PE X (.Call (.Attribute o m apos) [] [] pos) (tMethX C m pt.1 pt.2.1.length sp pt.2.2 W ta tNil tNil) := by
  obtain ⟨f, fd, ps, hc, hm, F, b⟩ := c.ex
  refine ⟨fun pins s σ H Q I h => ?_⟩
  refine PySem.W.methodCall_KW (pl := pl) (thn (he.run pins s σ H _ I h) fun u s1 ⟨x, H1, I1, rx, a, dx, fs, ex, ea, l, q⟩ => ?_) ht
  subst ex
  obtain rfl : u = Value.ref a := rx
  refine getmeth_ok I1 ea hc hm l ?_
  obtain ⟨l1, l2, q3⟩ := q
  have hz := run_X (us := [.ref a]) (vs := [.ref a]) (ws := []) F (hr.low hk) (b pt hpt) tkW I1 (.cons rfl .nil) .nil l1 l2 q3
  rw [hks] at hz
  exact PySem.W.callWith_K0 (first := [.ref a]) I1.kIn hm.kp hz
theorem vx_propX {pats : List Pat} (c : PropY X.prog X.w X.K X.mg X.base k C m sp pats) (hr : RoomG j X.A) (hk : k + 1 ≤ j) (he : PE X o ta) (hab : attributeBase o m X.env (eval o X.env) = eval o X.env := by rfl) : PE X (.Attribute o m pos) (tProp C sp [] E0 ta) := by
  obtain ⟨q, f, fd, ps, cls, prop, F, bind⟩ := c.ex
  constructor
  intro pins s σ H Q I h
  refine attr_of hab (thn (he.run pins s σ H _ I h) ?_)
  rintro u s1 ⟨x, H1, I1, rx, a, dx, fs, rfl, ea, prom⟩
  cases rx
  obtain ⟨mA, O, _⟩ := ins_get I1.hok ea
  obtain ⟨od, J, _⟩ := O.look
  obtain ⟨rest, rec_⟩ := prop.rec_
  have short : [Value.ref a].length = ps.length := (F.len _ _ _ _ prom).symm ▸ rfl
  have isCls : (PySem.W.clsIn X.K C).isSome = true := by
    obtain ⟨cd, e, _⟩ := PySem.W.any_some cls.hd
    rw [e]
    rfl
  refine PySem.W.get_bind I1.kIn J (PySem.W.plainGet_of (cls.get m)).1 (PySem.W.findObj_data isCls prop.at_ prop.get prop.tak) (PySem.W.plainGet_of (cls.get m)).2 (wpAny_call (PySem.W.prop_get (s := { s1 with toks := s1.toks + 1 }) I1.kIn rec_ ?_))
  have I2 := I1.tok (s1.toks + 1)
  refine codeAny_mono (F.run X.A.in1 X.stack _ H1 ⟨[.ref a], []⟩ [.ref a] [.ref a] Q E0 (hr.low hk).one I2.env0.in1 (by simpa using bind _ [.ref a] I2.kIn (by simpa using short)) (.cons rfl .nil) prom) ?_
  intro r s2 out
  cases r with
  | error er => exact (passL (X := X.nox) pins σ H1 _ er s2 (I2.wish _) out).elim
  | ok flow =>
    cases flow with
    | ret v =>
      obtain ⟨y, H2, I3, ry, qy⟩ := I2.after out
      have given := PySem.W.handedOut_of (handed_of ry)
      show wpAny _ _ (handedOut v) _ _ s2
      rw [given]
      exact wpAny_pure ⟨y, H2, I3, ry, qy⟩
    | next => exact out.elim
    | brk => exact out.elim
    | cont => exact out.elim
end
theorem Sep.news {M : List Addr} {H0 G0 G H H' : Hp} {O : List Addr} (S : Sep M H0 G0 G H O) (e : Same H H') (L : List Addr) (hL : ∀ a ∈ L, H a = none ∧ H' a ≠ none ∧ H0 a = none) : Sep M H0 G0 G H' (L ++ O) := by
  have S2 := S.same e
  refine ⟨S2.base, S2.pm, S2.sG, S2.g0, S2.gn, fun a ha => ?_⟩
  rcases List.mem_append.mp ha with h | h
  · obtain ⟨h1, h2, h3⟩ := hL a h
    exact ⟨S.gfree h1, h2, .inr h3⟩
  · exact S2.ow a h
theorem vv_chain {r r' : R2} {ta tb tc : TE} {σ : L2.St} {H : Hp} {x y z : V} {a b : Bool} (ha : Val ta σ H x) (hb : Val tb σ H y) (hc : Val tc σ H z) (h1 : ∀ Q : VK, Q (.bl a) H → r x y H Q) (h2 : ∀ Q : VK, Q (.bl b) H → r' y z H Q) :
    Val (tChain r r' ta tb tc) σ H (.bl (a && b)) := fun Q q => ha _ (hb _ (h1 _ ⟨a, rfl, by
  cases a with
  | true =>
    rw [if_pos rfl]
    exact hc _ (h2 _ q)
  | false =>
    rw [if_neg Bool.false_ne_true]
    exact q⟩))
/-! ### constants that are tuples, lists backwards, zip -/
theorem inV_ints (x : Int) : ∀ xs : List Int, inV (V.int x) (xs.map V.int) = decide (x ∈ xs)
  | [] => by simp [inV]
  | y :: r => by
    have h := inV_ints x r
    unfold inV at h ⊢
    rw [List.map_cons, List.any_cons, h]
    by_cases c : x = y
    · subst c
      simp [eqV]
    · simp [eqV, c, Ne.symm c]
theorem flat_ints : ∀ xs : List Int, (xs.map V.int).all flatV = true
  | [] => rfl
  | _ :: r => flat_ints r
def rInI (K : PySem.W.Frag) : R2 := fun x y H Q => ∃ (i : Int) (p : Addr) (xs : List Int), x = .int i ∧ y = .ref p ∧ (SqL K H p (xs.map V.int) ∨ SqT K H p (xs.map V.int)) ∧ Q (.bl (decide (i ∈ xs))) H
def rNotInI (K : PySem.W.Frag) : R2 := fun x y H Q => ∃ (i : Int) (p : Addr) (xs : List Int), x = .int i ∧ y = .ref p ∧ (SqL K H p (xs.map V.int) ∨ SqT K H p (xs.map V.int)) ∧ Q (.bl (!decide (i ∈ xs))) H
theorem op_inI {X : Cx} {K : PySem.W.Frag} (hK : X.K = K := by rfl) : OpR X (compareOp .In) (rInI K) := by
  subst hK
  intro pins s σ H x y v u Q I rx ry h
  obtain ⟨i, p, xs, rfl, rfl, hs, q⟩ := h
  refine op_in_seq pins s σ H _ _ v u Q I rx ry ⟨p, _, rfl, hs, rfl, flat_ints xs, ?_⟩
  rw [if_neg Bool.false_ne_true, inV_ints]
  exact q
theorem op_notInI {X : Cx} {K : PySem.W.Frag} (hK : X.K = K := by rfl) : OpR X (compareOp .NotIn) (rNotInI K) := by
  subst hK
  intro pins s σ H x y v u Q I rx ry h
  obtain ⟨i, p, xs, rfl, rfl, hs, q⟩ := h
  refine op_notIn_seq pins s σ H _ _ v u Q I rx ry ⟨p, _, rfl, hs, rfl, flat_ints xs, ?_⟩
  rw [if_pos rfl, inV_ints]
  exact q
theorem pe_revLK {X : Cx} {K : PySem.W.Frag} {e : Expr} {te : TE} {k : Nat} {p1 p2 p3 pos : Pos} (he : PE X e te) (hK : X.K = K := by rfl) : PE X (.Subscript e (.Slice none none (some (.UnaryOp .USub (.Constant (.int 1) k p1) p2)) p3) pos) (tRevL K te) := hK ▸ pe_revL he
theorem rev_map {α : Type} {f : α → V} {xs : List α} {H : Hp} {p : Addr} (h : H p = some (.lst (xs.map f).reverse)) : H p = some (.lst (xs.reverse.map f)) := by
  rw [List.map_reverse]
  exact h
theorem RpAll.rev {G : Hp} : ∀ {vs : List V} {ds : List PyData}, RpAll G vs ds → RpAll G vs.reverse ds.reverse
  | _, _, .nil => .nil
  | _, _, .cons h t => by
    rw [List.reverse_cons, List.reverse_cons]
    exact (RpAll.rev t).append (.one h)
theorem rev_all {α : Type} {f : α → PyData} {xs : List α} {G : Hp} {vs : List V} (a : RpAll G vs (xs.map f)) : RpAll G vs.reverse (xs.reverse.map f) := by
  rw [List.map_reverse]
  exact a.rev
theorem pi_zipK {X : Cx} {K : PySem.W.Frag} {e e2 : Expr} {ta : TA} {p pos tpos : Pos} {elts : List Expr} {kk : Nat} (hg : Gl X "zip") (hm : X.mg "zip" = none) (ha : PA X [e, e2] ta) (hK : X.K = K := by rfl)
    (hs : starEach [e, e2] X.env = (false, eval e X.env) :: starEach [e2] X.env := by rfl) (hpl : (backTo pos (starEach [e2] X.env)).any (·.1) = false := by rfl) :
    PI X (.Tuple elts kk tpos) (.Call (.Name "zip" p) [e, e2] [] pos) (RZ.iZipA K ta) := hK ▸ RZ.pi_zipA hg hm ha hs hpl
/-- a comprehension over zip of two lists of one length -/
theorem lc_zipL {K : PySem.W.Frag} {a b : Addr} {xs ys : List V} {g : TG} {tt : TT} {te : TE} {vs : List Nat} {σ : L2.St} {H1 : Hp} {D : Addr} {Qd : Hp → Prop} (hl : xs.length = ys.length) (Pv : Nat → Hp → Prop) (h0 : Pv 0 (upd H1 D (.lst []))) (hq : ∀ i H, i ≤ xs.length → Pv i H → SqL K H a xs ∧ SqL K H b ys)
    (hs : ∀ (i : Nat) (x y : V) (T : Addr) (H : Hp), xs[i]? = some x → ys[i]? = some y → H T = none → Pv i H → g (.ref T) (wipe σ vs) (upd H T (.tup [x, y])) fun σ2 H2 => wipe σ2 vs = wipe σ vs ∧ tt σ2 H2 fun b H3 =>
      if b = true then te σ2 H3 fun y H4 => ∃ acc, H4 D = some (.lst acc) ∧ acc.length < sizeLine ∧ Pv (i + 1) (upd H4 D (.lst (acc ++ [y]))) else Pv (i + 1) H3) (hd : ∀ H, Pv xs.length H → Qd H) :
    ∃ W : Nat → Nat → Hp → Prop, (∃ m, W 0 m (upd H1 D (.lst []))) ∧ ∀ i m H, W i m H →
      ((Itz K a b).stop i H ∧ Qd H) ∨ ((Itz K a b).go i H ∧ ∃ Nx : Hp → Prop, (∀ H', Nx H' → ∃ m', m' < m ∧ W (i + 1) m' H') ∧ ∀ x H', (Itz K a b).yld i H x H' → g x (wipe σ vs) H' fun σ2 H2 => wipe σ2 vs = wipe σ vs ∧ tt σ2 H2 fun b H3 =>
        if b = true then te σ2 H3 fun y H4 => ∃ acc, H4 D = some (.lst acc) ∧ acc.length < sizeLine ∧ Nx (upd H4 D (.lst (acc ++ [y]))) else Nx H3) := by
  refine ⟨fun i m H => m = xs.length - i ∧ i ≤ xs.length ∧ Pv i H, ⟨xs.length, by simp, Nat.zero_le _, h0⟩, ?_⟩
  rintro i m H ⟨rfl, hi, p⟩
  obtain ⟨qx, qy⟩ := hq i H hi p
  by_cases hlt : i < xs.length
  · have hlt2 : i < ys.length := by omega
    refine .inr ⟨⟨xs, ys, xs[i], ys[i], qx, qy, List.getElem?_eq_getElem hlt, List.getElem?_eq_getElem hlt2⟩, Pv (i + 1), fun H' p' => ⟨xs.length - (i + 1), by omega, rfl, hlt, p'⟩, fun v H' y => ?_⟩
    obtain ⟨T, x', y', rfl, hT, rfl, f1, f2⟩ := y
    exact hs i x' y' T H (f1 xs qx) (f2 ys qy) hT p
  · have e : i = xs.length := by omega
    subst e
    exact .inl ⟨⟨xs, ys, qx, qy, Or.inl (Nat.le_refl _)⟩, hd H p⟩
theorem zip_get {α β : Type} {xs : List α} {ys : List β} {i : Nat} {x : α} {y : β} (h1 : xs[i]? = some x) (h2 : ys[i]? = some y) : (xs.zip ys)[i]? = some (x, y) := by
  rw [List.getElem?_zip_eq_some]
  exact ⟨h1, h2⟩
theorem zip_len {α β : Type} {xs : List α} {ys : List β} {n : Nat} (h : xs.length = ys.length) (e : n = xs.length) : n = (xs.zip ys).length := by
  rw [List.length_zip, ← h, Nat.min_self]
  exact e
theorem zlen {α β : Type} {vs ws : List V} {xs : List α} {ys : List β} (a : vs.length = xs.length) (b : ws.length = ys.length) (h : xs.length = ys.length) : vs.length = ws.length := by rw [a, b, h]
section
variable {t : TT} {ta tb : TE} {σ : L2.St} {H : Hp}
theorem vv_ifP {p : Prop} [Decidable p] {a b : Int} (ht : Ans t σ H (decide p)) (hx : p → Val ta σ H (.int a)) (hy : ¬ p → Val tb σ H (.int b)) : Val (tIf t ta tb) σ H (.int (if p then a else b)) := by
  by_cases h : p
  · have := vv_if (p := p) (a := a) (b := a) ht (hx h) (tb := ta) (hx h)
    intro Q q
    refine ht _ ?_
    rw [decide_eq_true h, if_pos rfl]
    rw [if_pos h] at q
    exact hx h _ q
  · intro Q q
    refine ht _ ?_
    rw [decide_eq_false h, if_neg Bool.false_ne_true]
    rw [if_neg h] at q
    exact hy h _ q
theorem vv_ifQ {c : Bool} {a b : Int} (ht : Ans t σ H c) (hx : c = true → Val ta σ H (.int a)) (hy : c = false → Val tb σ H (.int b)) : Val (tIf t ta tb) σ H (.int (if c = true then a else b)) := by
  intro Q q
  refine ht _ ?_
  cases c with
  | true =>
    rw [if_pos rfl]
    rw [if_pos rfl] at q
    exact hx rfl _ q
  | false =>
    rw [if_neg Bool.false_ne_true]
    rw [if_neg Bool.false_ne_true] at q
    exact hy rfl _ q
end
theorem kit_mk0 {K : PySem.W.Frag} {S C : Addr} (h1 : (Value.ref S == Value.ref C) = false) (h2 : PySem.W.isClsIn K C = true) (h3 : PySem.W.typeIn K (.ref C) = some (.type "type")) (h4 : PySem.W.subIn K (.ref S) (.ref C) = some false) :
    PySem.W.kitOne K (.ref S) (.ref C) = some false := by
  unfold PySem.W.isClsIn at h2
  unfold PySem.W.kitOne
  rw [if_neg (by rw [h1]; exact Bool.false_ne_true)]
  unfold PySem.W.kitCls
  simp only [h2, h3, h4, beq_self_eq_true, Bool.and_self, if_true]
theorem vv_call2 {ta tb : TE} {σ : L2.St} {H : Hp} {x y z : V} {r : List V → Hp → VK → Prop} (ha : Val ta σ H x) (hb : Val tb σ H y) (hr : ∀ Q : VK, Q z H → r [x, y] H Q) : Val (tCB r (tCons ta (tCons tb tNil))) σ H z := fun Q q => ha _ (hb _ (hr Q q))
/-! ### lists of data that the caller owns; values that are a truth value or a number -/
theorem Sep.stepnew {M : List Addr} {H0 G0 G H H' : Hp} {O : List Addr} {p : Addr} {o : HO} (S : Sep M H0 G0 G H O) {G' : Hp} (e : Same H H') (eG : Same G G') (sG : Same G' H') (hn : ∀ b, H b ≠ none → G b = none → G' b = none) (_n : H p = none) (h : H' p = some o) (g : G' p = none) (hm : H0 p = none) : Sep M H0 G0 G' H' (p :: O) := by
  have S2 := S.step e eG sG hn
  refine ⟨S2.base, S2.pm, S2.sG, S2.g0, S2.gn, fun a ha => ?_⟩
  rcases List.mem_cons.mp ha with rfl | ha
  · exact ⟨g, (fun z => by rw [z] at h; cases h), .inr hm⟩
  · exact S2.ow a ha
inductive Bi where
  | b (x : Bool)
  | n (i : Int)
deriving DecidableEq
def biV : Bi → V
  | .b x => .bl x
  | .n i => .int i
def Bi.el {α : Type} (v : Bi) (f : Bool → α) (g : Int → α) : α :=
  match v with
  | .b x => f x
  | .n i => g i
theorem cW_elb {α : Type} {x : Bool} {f : Bool → Rx α} {g : Int → Rx α} {K : α → Prop} {E : Nat → Prop} (h : cW (Bi.el (.b x) f g) K E) : cW (f x) K E := h
theorem cW_eln {α : Type} {x : Int} {f : Bool → Rx α} {g : Int → Rx α} {K : α → Prop} {E : Nat → Prop} (h : cW (Bi.el (.n x) f g) K E) : cW (g x) K E := h
theorem rp_tup4 {α β γ δ : Type} {f : α → PyData} {g : β → PyData} {h : γ → PyData} {i : δ → PyData} {H : Hp} {v : V} {x : α × β × γ × δ} (r : Rp H v (encT4 f g h i x)) : ∃ a v1 v2 v3 v4, v = .ref a ∧ H a = some (.tup [v1, v2, v3, v4]) ∧ Rp H v1 (f x.1) ∧ Rp H v2 (g x.2.1) ∧ Rp H v3 (h x.2.2.1) ∧ Rp H v4 (i x.2.2.2) := by
  unfold encT4 at r
  cases r with
  | tup h1 h2 =>
    cases h2 with
    | cons a b =>
      cases b with
      | cons b c =>
        cases c with
        | cons c d =>
          cases d with
          | cons d e =>
            cases e
            exact ⟨_, _, _, _, _, rfl, h1, a, b, c, d⟩
theorem rp_mk4 {α β γ δ : Type} {f : α → PyData} {g : β → PyData} {h : γ → PyData} {i : δ → PyData} {H : Hp} {a : Addr} {v1 v2 v3 v4 : V} {x : α} {y : β} {z : γ} {w : δ} (h1 : H a = some (.tup [v1, v2, v3, v4])) (r1 : Rp H v1 (f x)) (r2 : Rp H v2 (g y)) (r3 : Rp H v3 (h z)) (r4 : Rp H v4 (i w)) : Rp H (.ref a) (encT4 f g h i (x, y, z, w)) := .tup h1 (.cons r1 (.cons r2 (.cons r3 (.cons r4 .nil))))
theorem Sep.b0M {M : List Addr} {H0 G0 G H : Hp} {O : List Addr} (S : Sep M H0 G0 G H O) (h : ∀ a ∈ M, H a = H0 a) : Same H0 H := fun b o e => by
  by_cases z : b ∈ M
  · rw [h b z]
    exact e
  · exact S.base b o e z
section
variable {X : Cx} {k j n : Nat} {f C : Addr} {fd : FuncData} {ps ks : List Str} {g : List V → List V → List V} {sp : Sp} {x m : Str} {pos p apos : Pos} {e o : Expr} {es : List Expr} {kws : List Keyword} {ta : TE} {t tk : TA} {W : WX}
/-- keywords alone -/
theorem vx_makeXK {pats : List Pat} (c : MakX X.prog X.w X.K X.mg X.base k x C sp pats) (pt : Pat) (hpt : pt ∈ pats) (hr : RoomG j X.A) (hk : k + 1 ≤ j) (tkW : Takes X W) (hg : Gl X x) (hkw : PK X kws tk)
    (hall : (backToKw pos (keywordEach kws X.env)).all (·.1.isSome) = true := by rfl) (hks : (backToKw pos (keywordEach kws X.env)).filterMap (·.1) = pt.2.1 := by rfl) (hdb : (x == ("__debug__" : Str)) = false := by decide)
    (hpl : ((backTo pos (starEach [] X.env)).any (·.1) || (backToKw pos (keywordEach kws X.env)).any (·.1.isNone)) = false := by rfl) :
    PE X (.Call (.Name x p) [] kws pos) (tMakeX C pt.1 pt.2.1.length sp pt.2.2 W tNil tk) := by
  obtain ⟨f, fd, ps, M, F, hm, b⟩ := c.ex
  refine ⟨fun pins s σ H Q I h => ?_⟩
  refine wpAny_Call_Name_kw (ld_glob I hg hm ?_ hdb)
  refine PySem.W.callWith_KW0 (h₀ := X.base) I.ok.mod.kin M.kp hall ?_ hpl
  refine thn (hkw.run pos pins s σ H _ I h) fun ws s2 ⟨zs, H2, I2, rz, l1, l2, q2⟩ => ⟨I2.kIn, ?_⟩
  rw [hks]
  exact run_mkX (us := []) (vs := []) M F (hr.low hk) (b pt hpt) tkW I2 .nil rz l1 l2 q2
theorem vx_callXK {pats : List Pat} (c : CalX X.prog X.w X.K X.mg X.base k x sp pats) (pt : Pat) (hpt : pt ∈ pats) (hr : RoomG j X.A) (hk : k ≤ j) (tkW : Takes X W) (hg : Gl X x) (hkw : PK X kws tk)
    (hall : (backToKw pos (keywordEach kws X.env)).all (·.1.isSome) = true := by rfl) (hks : (backToKw pos (keywordEach kws X.env)).filterMap (·.1) = pt.2.1 := by rfl) (hdb : (x == ("__debug__" : Str)) = false := by decide)
    (hpl : ((backTo pos (starEach [] X.env)).any (·.1) || (backToKw pos (keywordEach kws X.env)).any (·.1.isNone)) = false := by rfl) :
    PE X (.Call (.Name x p) [] kws pos) (tCallX pt.1 pt.2.1.length sp pt.2.2 W tNil tk) := by
  obtain ⟨f, fd, ps, F, hm, kp, b⟩ := c.ex
  refine ⟨fun pins s σ H Q I h => ?_⟩
  refine wpAny_Call_Name_kw (ld_glob I hg hm ?_ hdb)
  refine PySem.W.callWith_KW0 (h₀ := X.base) I.ok.mod.kin kp hall ?_ hpl
  refine thn (hkw.run pos pins s σ H _ I h) fun ws s2 ⟨zs, H2, I2, rz, l1, l2, q2⟩ => ⟨I2.kIn, ?_⟩
  rw [hks]
  exact run_X (us := []) (vs := []) F (hr.low hk) (b pt hpt) tkW I2 .nil rz l1 l2 q2
theorem vx_methXK {pats : List Pat} {pl : Sem Bool} (c : MetX X.prog X.w X.K X.mg X.base k C m sp pats) (pt : Pat) (hpt : pt ∈ pats) (hr : RoomG j X.A) (hk : k ≤ j) (tkW : Takes X W) (he : PE X o ta) (hkw : PK X kws tk)
    (hall : (backToKw pos (keywordEach kws X.env)).all (·.1.isSome) = true := by rfl) (hks : (backToKw pos (keywordEach kws X.env)).filterMap (·.1) = pt.2.1 := by rfl)
    (hpl : ((backTo pos (starEach [] X.env)).any (·.1) || (backToKw pos (keywordEach kws X.env)).any (·.1.isNone)) = false := by rfl)
    (ht : eval (.Call (.Attribute o m apos) [] kws pos) X.env = (do
      let ov ← eval o X.env
      standAt apos.atName
      let (f, first) ← holding [ov] (getMethod ov m pl)
      callWith pos f first (backTo pos (starEach [] X.env)) (backToKw pos (keywordEach kws X.env))) := by rfl) :
    PE X (.Call (.Attribute o m apos) [] kws pos) (tMethX C m pt.1 pt.2.1.length sp pt.2.2 W ta tNil tk) := by
  obtain ⟨f, fd, ps, hc, hm, F, b⟩ := c.ex
  refine ⟨fun pins s σ H Q I h => ?_⟩
  refine PySem.W.methodCall_KW (pl := pl) (thn (he.run pins s σ H _ I h) fun u s1 ⟨x, H1, I1, rx, a, dx, fs, ex, ea, l, q⟩ => ?_) ht
  subst ex
  obtain rfl : u = Value.ref a := rx
  refine getmeth_ok I1 ea hc hm l ?_
  refine PySem.W.callWith_KW0 (first := [.ref a]) (h₀ := X.base) I.ok.mod.kin hm.kp hall ?_ hpl
  refine thn (hkw.run pos pins s1 σ H1 _ I1 q) fun ws s3 ⟨zs, H3, I3, rz, l1, l2, q3⟩ => ⟨I3.kIn, ?_⟩
  rw [hks]
  exact run_X (us := [.ref a]) (vs := [.ref a]) F (hr.low hk) (b pt hpt) tkW I3 (.cons rfl .nil) rz l1 l2 q3
end
end Vx
/-! # lists within lists that are owned as a whole -/
namespace Vx
open PySem PySem.Spec PyProof.Rows L2
inductive Kd where
  | lst
  | tup
  | ins (C dx : Addr) (ns : List Str)
def Kd.ho : Kd → List V → HO
  | .lst, vs => .lst vs
  | .tup, vs => .tup vs
  | .ins C dx ns, vs => .ins C dx (ns.zip vs)
/-- what stands in the heap as a tree: values as they are, data that stay, nodes of its own -/
inductive Dt where
  | val (v : V)
  | frz (d : PyData)
  | nod (k : Kd) (xs : List Dt)
mutual
inductive Ow (G H : Hp) : List Addr → V → Dt → Prop
  | val (v : V) : Ow G H [] v (.val v)
  | frz {v : V} {d : PyData} : Rp G v d → Ow G H [] v (.frz d)
  | nod {a : Addr} {k : Kd} {vs : List V} {ds : List Dt} {L : List Addr} : H a = some (k.ho vs) → OwAll G H L vs ds → a ∉ L → Ow G H (a :: L) (.ref a) (.nod k ds)
inductive OwAll (G H : Hp) : List Addr → List V → List Dt → Prop
  | nil : OwAll G H [] [] []
  | cons {L1 L2 : List Addr} {v : V} {vs : List V} {d : Dt} {ds : List Dt} : Ow G H L1 v d → OwAll G H L2 vs ds → (∀ b ∈ L1, b ∉ L2) → OwAll G H (L1 ++ L2) (v :: vs) (d :: ds)
end
def Keeps (L : List Addr) (H H' : Hp) : Prop := ∀ b ∈ L, ∀ o, H b = some o → H' b = some o
mutual
theorem Ow.mono {G G' H H' : Hp} (e : Same G G') : ∀ {L : List Addr} {v : V} {d : Dt}, Keeps L H H' → Ow G H L v d → Ow G' H' L v d
  | _, _, _, _, .val v => .val v
  | _, _, _, _, .frz r => .frz (r.mono e)
  | _, _, _, k, .nod h r n => .nod (k _ List.mem_cons_self _ h) (OwAll.mono e (fun b hb => k b (List.mem_cons_of_mem _ hb)) r) n
theorem OwAll.mono {G G' H H' : Hp} (e : Same G G') : ∀ {L : List Addr} {vs : List V} {ds : List Dt}, Keeps L H H' → OwAll G H L vs ds → OwAll G' H' L vs ds
  | _, _, _, _, .nil => .nil
  | _, _, _, k, .cons a r d => .cons (Ow.mono e (fun b hb => k b (List.mem_append_left _ hb)) a) (OwAll.mono e (fun b hb => k b (List.mem_append_right _ hb)) r) d
end
mutual
theorem Ow.there {G H : Hp} : ∀ {L : List Addr} {v : V} {d : Dt}, Ow G H L v d → ∀ b ∈ L, H b ≠ none
  | _, _, _, .val _, _, hb => nomatch hb
  | _, _, _, .frz _, _, hb => nomatch hb
  | _, _, _, .nod h r n, b, hb => by
    rcases List.mem_cons.mp hb with rfl | hb
    · exact some_ne h
    · exact OwAll.there r b hb
theorem OwAll.there {G H : Hp} : ∀ {L : List Addr} {vs : List V} {ds : List Dt}, OwAll G H L vs ds → ∀ b ∈ L, H b ≠ none
  | _, _, _, .nil, _, hb => nomatch hb
  | _, _, _, .cons a r d, b, hb => by
    rcases List.mem_append.mp hb with hb | hb
    · exact Ow.there a b hb
    · exact OwAll.there r b hb
end
theorem OwAll.len {G H : Hp} : ∀ {L : List Addr} {vs : List V} {ds : List Dt}, OwAll G H L vs ds → vs.length = ds.length
  | _, _, _, .nil => rfl
  | _, _, _, .cons _ r _ => congrArg Nat.succ r.len
theorem OwAll.snoc {G H : Hp} {L1 : List Addr} {v : V} {d : Dt} (h : Ow G H L1 v d) : ∀ {L : List Addr} {vs : List V} {ds : List Dt}, OwAll G H L vs ds → (∀ b ∈ L, b ∉ L1) → OwAll G H (L ++ L1) (vs ++ [v]) (ds ++ [d])
  | _, _, _, .nil, _ => by
    have z : OwAll G H (L1 ++ []) [v] [d] := .cons h .nil (fun _ _ z => nomatch z)
    rw [List.append_nil] at z
    exact z
  | _, _, _, .cons (L1 := La) (L2 := Lb) a r n, k => by
    have z := OwAll.cons a (OwAll.snoc h r fun b hb => k b (List.mem_append_right _ hb)) (fun b hb q => by
      rcases List.mem_append.mp q with q | q
      · exact n b hb q
      · exact k b (List.mem_append_left _ hb) q)
    rw [← List.append_assoc] at z
    exact z
theorem OwAll.app {G H : Hp} {L2 : List Addr} {ws : List V} {es : List Dt} (h : OwAll G H L2 ws es) : ∀ {L : List Addr} {vs : List V} {ds : List Dt}, OwAll G H L vs ds → (∀ b ∈ L, b ∉ L2) → OwAll G H (L ++ L2) (vs ++ ws) (ds ++ es)
  | _, _, _, .nil, _ => h
  | _, _, _, .cons (L1 := La) (L2 := Lb) a r n, k => by
    have z := OwAll.cons a (OwAll.app h r fun b hb => k b (List.mem_append_right _ hb)) (fun b hb q => by
      rcases List.mem_append.mp q with q | q
      · exact n b hb q
      · exact k b (List.mem_append_left _ hb) q)
    rw [← List.append_assoc] at z
    exact z
/-! ### trees that are data -/
mutual
inductive Dd : Dt → PyData → Prop
  | non : Dd (.val .non) .none
  | bl (b : Bool) : Dd (.val (.bl b)) (.bool b)
  | int (i : Int) : Dd (.val (.int i)) (.int i)
  | str (x : Str) : Dd (.val (.str x)) (.str x)
  | frz (d : PyData) : Dd (.frz d) d
  | lst {xs : List Dt} {ds : List PyData} : DdAll xs ds → Dd (.nod .lst xs) (.list ds)
  | tup {xs : List Dt} {ds : List PyData} : DdAll xs ds → Dd (.nod .tup xs) (.tuple ds)
inductive DdAll : List Dt → List PyData → Prop
  | nil : DdAll [] []
  | cons {x : Dt} {xs : List Dt} {d : PyData} {ds : List PyData} : Dd x d → DdAll xs ds → DdAll (x :: xs) (d :: ds)
end
mutual
/-- read in any heap that holds its nodes -/
theorem Ow.rp {G H I : Hp} (e : Same G I) : ∀ {L : List Addr} {v : V} {d : Dt} {p : PyData}, Keeps L H I → Ow G H L v d → Dd d p → Rp I v p
  | _, _, _, _, _, .val _, .non => .non
  | _, _, _, _, _, .val _, .bl b => .bl b
  | _, _, _, _, _, .val _, .int i => .int i
  | _, _, _, _, _, .val _, .str x => .str x
  | _, _, _, _, _, .frz r, .frz _ => r.mono e
  | _, _, _, _, k, .nod h r _, .lst q => .lst (k _ List.mem_cons_self _ h) (OwAll.rp e (fun b hb => k b (List.mem_cons_of_mem _ hb)) r q)
  | _, _, _, _, k, .nod h r _, .tup q => .tup (k _ List.mem_cons_self _ h) (OwAll.rp e (fun b hb => k b (List.mem_cons_of_mem _ hb)) r q)
theorem OwAll.rp {G H I : Hp} (e : Same G I) : ∀ {L : List Addr} {vs : List V} {ds : List Dt} {ps : List PyData}, Keeps L H I → OwAll G H L vs ds → DdAll ds ps → RpAll I vs ps
  | _, _, _, _, _, .nil, .nil => .nil
  | _, _, _, _, k, .cons a r _, .cons x xs => .cons (Ow.rp e (fun b hb => k b (List.mem_append_left _ hb)) a x) (OwAll.rp e (fun b hb => k b (List.mem_append_right _ hb)) r xs)
end
def oI (i : Int) : Dt := .val (.int i)
def oB (b : Bool) : Dt := .val (.bl b)
def oF {α : Type} (f : α → PyData) (x : α) : Dt := .frz (f x)
def oL {α : Type} (f : α → Dt) (xs : List α) : Dt := .nod .lst (xs.map f)
def EncO {α : Type} (f : α → Dt) (g : α → PyData) : Prop := ∀ x, Dd (f x) (g x)
theorem encO_I : EncO oI PyData.int := fun i => .int i
theorem encO_B : EncO oB PyData.bool := fun i => .bl i
theorem encO_F {α : Type} {f : α → PyData} : EncO (oF f) f := fun _ => .frz _
theorem EncO.all {α : Type} {f : α → Dt} {g : α → PyData} (h : EncO f g) : ∀ xs : List α, DdAll (xs.map f) (xs.map g)
  | [] => .nil
  | x :: xs => .cons (h x) (EncO.all h xs)
theorem encO_L {α : Type} {f : α → Dt} {g : α → PyData} (h : EncO f g) : EncO (oL f) (encL g) := fun xs => .lst (h.all xs)
theorem keeps_same {L : List Addr} {H H' : Hp} (e : Same H H') : Keeps L H H' := fun b _ o q => e b o q
theorem keeps_refl {L : List Addr} {H : Hp} : Keeps L H H := fun _ _ _ q => q
theorem keeps_mut {L : List Addr} {H H' : Hp} {m : Addr} (x : SameX m H H') (n : ∀ b ∈ L, b ≠ m) : Keeps L H H' := fun b hb o q => x b o q (n b hb)
theorem keeps_muts {L M : List Addr} {H H' : Hp} (x : SameXs M H H') (n : ∀ b ∈ L, b ∉ M) : Keeps L H H' := fun b hb o q => x b o q (n b hb)
theorem keeps_hide {L M : List Addr} {H : Hp} (n : ∀ b ∈ L, b ∉ M) : Keeps L H (hideL M H) := fun b hb o q => by
  rw [hideL_out (n b hb)]
  exact q
section
variable {α : Type} {f : α → Dt} {g : α → PyData} {G H I : Hp} {L : List Addr} {vs : List V} {xs : List α}
theorem OwAll.rpA (w : OwAll G H L vs (xs.map f)) (h : EncO f g) (e : Same G H) : RpAll H vs (xs.map g) := OwAll.rp e keeps_refl w (h.all xs)
theorem OwAll.rpH (w : OwAll G H L vs (xs.map f)) (h : EncO f g) (e : Same G I) (k : Keeps L H I) : RpAll I vs (xs.map g) := OwAll.rp e k w (h.all xs)
theorem OwAll.lenM (w : OwAll G H L vs (xs.map f)) : vs.length = xs.length := by rw [w.len, List.length_map]
theorem OwAll.snocM {L1 : List Addr} {v : V} {y : α} (w : OwAll G H L vs (xs.map f)) (h : Ow G H L1 v (f y)) (n : ∀ b ∈ L, b ∉ L1) : OwAll G H (L ++ L1) (vs ++ [v]) ((xs ++ [y]).map f) := by
  rw [List.map_append]
  exact OwAll.snoc h w n
theorem Ow.ints {a : Addr} {ys : List Int} (h : H a = some (.lst (ys.map V.int))) : Ow G H [a] (.ref a) (oL oI ys) := by
  have z : ∀ ys : List Int, OwAll G H [] (ys.map V.int) (ys.map oI) := fun ys => by
    induction ys with
    | nil => exact .nil
    | cons y r ih => exact .cons (L1 := []) (L2 := []) (.val _) ih (fun _ z => nomatch z)
  exact .nod (k := .lst) h (z ys) (fun z => nomatch z)
theorem Ow.list {a : Addr} {xs : List α} {L : List Addr} {vs : List V} (h : H a = some (.lst vs)) (w : OwAll G H L vs (xs.map f)) (n : ∀ b ∈ L, b ≠ a) : Ow G H (a :: L) (.ref a) (oL f xs) := .nod (k := .lst) h w (fun z => n a z rfl)
theorem Ow.toList {v : V} {L : List Addr} {xs : List α} (w : Ow G H L v (oL f xs)) : ∃ a vs L', v = .ref a ∧ L = a :: L' ∧ H a = some (.lst vs) ∧ OwAll G H L' vs (xs.map f) ∧ ∀ b ∈ L', b ≠ a := by
  unfold oL at w
  cases w with
  | nod h r n => exact ⟨_, _, _, rfl, rfl, h, r, fun b hb z => n (z ▸ hb)⟩
theorem OwAll.toInts : ∀ {L : List Addr} {vs : List V} {xs : List Int}, OwAll G H L vs (xs.map oI) → L = [] ∧ vs = xs.map V.int
  | _, _, [], .nil => ⟨rfl, rfl⟩
  | _, _, x :: xs, .cons a r _ => by
    obtain ⟨h1, h2⟩ := OwAll.toInts r
    cases a
    exact ⟨by rw [h1] <;> rfl, by rw [h2] <;> rfl⟩
theorem Ow.toInts {v : V} {L : List Addr} {xs : List Int} (w : Ow G H L v (oL oI xs)) : ∃ a, v = .ref a ∧ L = [a] ∧ H a = some (.lst (xs.map V.int)) := by
  obtain ⟨a, vs, L', rfl, rfl, h, r, _⟩ := w.toList
  obtain ⟨rfl, rfl⟩ := r.toInts
  exact ⟨a, rfl, rfl, h⟩
/-- the part at a place, and how a change of it alone changes the whole -/
theorem OwAll.part : ∀ {L : List Addr} {vs : List V} {ds : List Dt} {i : Nat} {d : Dt}, OwAll G H L vs ds → ds[i]? = some d → ∃ v L1, vs[i]? = some v ∧ Ow G H L1 v d ∧ (∀ b ∈ L1, b ∈ L) ∧
    ∀ H' d', (∀ b ∈ L, b ∉ L1 → ∀ o, H b = some o → H' b = some o) → Ow G H' L1 v d' → OwAll G H' L vs (ds.set i d')
  | _, _, _, _, _, .nil, h => by simp at h
  | _, _, _, 0, _, .cons (L1 := La) (L2 := Lb) a r n, h => by
    simp at h
    subst h
    refine ⟨_, La, rfl, a, fun b hb => List.mem_append_left _ hb, fun H' d' k w => ?_⟩
    exact .cons w (OwAll.mono (Same.refl G) (fun b hb => k b (List.mem_append_right _ hb) fun z => n b z hb) r) n
  | _, _, _, i + 1, _, .cons (L1 := La) (L2 := Lb) a r n, h => by
    obtain ⟨v, L1, h1, h2, h3, h4⟩ := OwAll.part (i := i) r (by simpa using h)
    refine ⟨v, L1, by simpa using h1, h2, fun b hb => List.mem_append_right _ (h3 b hb), fun H' d' k w => ?_⟩
    refine .cons (Ow.mono (Same.refl G) (fun b hb => k b (List.mem_append_left _ hb) fun z => n b hb (h3 b z)) a) (h4 H' d' (fun b hb nb => k b (List.mem_append_right _ hb) nb) w) n
/-- the same, where the part grows: its new footprint is the old one and what is new -/
theorem OwAll.part2 : ∀ {L : List Addr} {vs : List V} {ds : List Dt} {i : Nat} {d : Dt}, OwAll G H L vs ds → ds[i]? = some d → ∃ v L1, vs[i]? = some v ∧ Ow G H L1 v d ∧ (∀ b ∈ L1, b ∈ L) ∧
    (∀ H' d', (∀ b ∈ L, b ∉ L1 → ∀ o, H b = some o → H' b = some o) → Ow G H' L1 v d' → OwAll G H' L vs (ds.set i d')) ∧
    ∀ H' d' Fv L1', (∀ b ∈ L, b ∉ L1 → ∀ o, H b = some o → H' b = some o) → (∀ b ∈ L1', b ∈ L1 ++ Fv) → (∀ b ∈ Fv, b ∉ L) → Ow G H' L1' v d' → ∃ L', (∀ b ∈ L', b ∈ L ++ Fv) ∧ OwAll G H' L' vs (ds.set i d')
  | _, _, _, _, _, .nil, h => by simp at h
  | _, _, _, 0, _, .cons (L1 := La) (L2 := Lb) a r n, h => by
    simp at h
    subst h
    refine ⟨_, La, rfl, a, fun b hb => List.mem_append_left _ hb, fun H' d' k w => ?_, fun H' d' Fv L1' k s nf w => ⟨L1' ++ Lb, fun b hb => ?_, ?_⟩⟩
    · exact .cons w (OwAll.mono (Same.refl G) (fun b hb => k b (List.mem_append_right _ hb) fun z => n b z hb) r) n
    · rcases List.mem_append.mp hb with hb | hb
      · rcases List.mem_append.mp (s b hb) with q | q
        · exact List.mem_append_left _ (List.mem_append_left _ q)
        · exact List.mem_append_right _ q
      · exact List.mem_append_left _ (List.mem_append_right _ hb)
    · refine .cons w (OwAll.mono (Same.refl G) (fun b hb => k b (List.mem_append_right _ hb) fun z => n b z hb) r) fun b hb q => ?_
      rcases List.mem_append.mp (s b hb) with z | z
      · exact n b z q
      · exact nf b z (List.mem_append_right _ q)
  | _, _, _, i + 1, _, .cons (L1 := La) (L2 := Lb) a r n, h => by
    obtain ⟨v, L1, h1, h2, h3, h4, h5⟩ := OwAll.part2 (i := i) r (by simpa using h)
    refine ⟨v, L1, by simpa using h1, h2, fun b hb => List.mem_append_right _ (h3 b hb), fun H' d' k w => ?_, fun H' d' Fv L1' k s nf w => ?_⟩
    · refine .cons (Ow.mono (Same.refl G) (fun b hb => k b (List.mem_append_left _ hb) fun z => n b hb (h3 b z)) a) (h4 H' d' (fun b hb nb => k b (List.mem_append_right _ hb) nb) w) n
    · obtain ⟨L', s2, z⟩ := h5 H' d' Fv L1' (fun b hb nb => k b (List.mem_append_right _ hb) nb) s (fun b hb q => nf b hb (List.mem_append_right _ q)) w
      refine ⟨La ++ L', fun b hb => ?_, .cons (Ow.mono (Same.refl G) (fun b hb => k b (List.mem_append_left _ hb) fun z => n b hb (h3 b z)) a) z fun b hb q => ?_⟩
      · rcases List.mem_append.mp hb with hb | hb
        · exact List.mem_append_left _ (List.mem_append_left _ hb)
        · rcases List.mem_append.mp (s2 b hb) with q | q
          · exact List.mem_append_left _ (List.mem_append_right _ q)
          · exact List.mem_append_right _ q
      · rcases List.mem_append.mp (s2 b q) with y | y
        · exact n b hb y
        · exact nf b y (List.mem_append_left _ hb)
theorem OwAll.partM [Inhabited α] {k : Int} (w : OwAll G H L vs (xs.map f)) (h : -(xs.length : Int) ≤ k ∧ k < xs.length) : ∃ v L1, atI vs k = some v ∧ Ow G H L1 v (f (itD xs k)) ∧ (∀ b ∈ L1, b ∈ L) ∧
    (∀ H' y, (∀ b ∈ L, b ∉ L1 → ∀ o, H b = some o → H' b = some o) → Ow G H' L1 v (f y) → OwAll G H' L vs ((setL xs k y).map f)) ∧
    ∀ H' y Fv L1', (∀ b ∈ L, b ∉ L1 → ∀ o, H b = some o → H' b = some o) → (∀ b ∈ L1', b ∈ L1 ++ Fv) → (∀ b ∈ Fv, b ∉ L) → Ow G H' L1' v (f y) → ∃ L', (∀ b ∈ L', b ∈ L ++ Fv) ∧ OwAll G H' L' vs ((setL xs k y).map f) := by
  obtain ⟨j, e, hj⟩ := ixN_some h
  have hx := List.getElem?_eq_getElem hj
  obtain ⟨v, L1, h1, h2, h3, h4, h5⟩ := OwAll.part2 (i := j) (d := f xs[j]) w (by rw [List.getElem?_map, hx] <;> rfl)
  have ei : itD xs k = xs[j] := by
    unfold itD atI
    rw [e]
    show (xs[j]?).getD default = _
    rw [hx] <;> rfl
  refine ⟨v, L1, ?_, by rw [ei]; exact h2, h3, fun H' y q w2 => ?_, fun H' y Fv L1' q s nf w2 => ?_⟩
  · unfold atI
    rw [w.lenM, e]
    exact h1
  · have z := h4 H' (f y) q w2
    unfold setL
    rw [e, List.map_set]
    exact z
  · obtain ⟨L', s2, z⟩ := h5 H' (f y) Fv L1' q s nf w2
    refine ⟨L', s2, ?_⟩
    unfold setL
    rw [e, List.map_set]
    exact z
theorem grow_keeps {L L1 : List Addr} {m : Addr} {H H1 H2 : Hp} (e : Same H H1) (x : SameX m H1 H2) (hm : m ∈ L1) : ∀ b ∈ L, b ∉ L1 → ∀ o, H b = some o → H2 b = some o := fun b _ n o q => x b o (e b o q) (fun z => n (z ▸ hm))
theorem grow_sub {a : Addr} {L' Lr Fv : List Addr} (h : ∀ b ∈ L', b ∈ Lr ++ Fv) : ∀ b ∈ a :: L', b ∈ (a :: Lr) ++ Fv := fun b hb => by
  rcases List.mem_cons.mp hb with rfl | hb
  · exact List.mem_cons_self
  · exact List.mem_cons_of_mem _ (h b hb)
/-- the item of a turn -/
theorem OwAll.turn {i : Nat} {v : V} (w : OwAll G H L vs (xs.map f)) (h : vs[i]? = some v) : ∃ x L1, xs[i]? = some x ∧ Ow G H L1 v (f x) ∧ ∀ b ∈ L1, b ∈ L := by
  have hl := get_len h
  have e := w.lenM
  have hx := List.getElem?_eq_getElem (show i < xs.length by omega)
  obtain ⟨v2, L1, h1, h2, h3, _⟩ := OwAll.part (i := i) (d := f xs[i]) w (by rw [List.getElem?_map, hx] <;> rfl)
  rw [h] at h1
  cases h1
  exact ⟨_, L1, hx, h2, h3⟩
end
/-! ### what is owned, in pieces -/
theorem all_app {P : Addr → Prop} {L l : List Addr} (h : ∀ x ∈ L, P x) (t : ∀ x ∈ l, P x) : ∀ x ∈ L ++ l, P x := fun x hx => by
  rcases List.mem_append.mp hx with q | q
  · exact h x q
  · exact t x q
theorem nm_nil {a : Addr} : a ∉ ([] : List Addr) := fun z => nomatch z
theorem nm_cons {a m : Addr} {l : List Addr} (h : a ≠ m) (t : a ∉ l) : a ∉ m :: l := fun z => by
  rcases List.mem_cons.mp z with q | q
  · exact h q
  · exact t q
theorem nm_app {a : Addr} {L l : List Addr} (h : a ∉ L) (t : a ∉ l) : a ∉ L ++ l := fun z => by
  rcases List.mem_append.mp z with q | q
  · exact h q
  · exact t q
theorem there_ne {H : Hp} {L : List Addr} {x : Addr} (t : ∀ b ∈ L, H b ≠ none) (n : H x = none) : ∀ b ∈ L, b ≠ x := fun b hb z => t b hb (z ▸ n)
theorem new_ne {H : Hp} {L : List Addr} {x : Addr} {o : HO} (n : ∀ b ∈ L, H b = none) (h : H x = some o) : ∀ b ∈ L, b ≠ x := fun b hb z => by
  have := n b hb
  rw [z, h] at this
  cases this
theorem new_nl {H : Hp} {L L2 : List Addr} (n : ∀ b ∈ L, H b = none) (t : ∀ b ∈ L2, H b ≠ none) : ∀ b ∈ L, b ∉ L2 := fun b hb z => t b z (n b hb)
theorem nl_symm {L L2 : List Addr} (h : ∀ b ∈ L, b ∉ L2) : ∀ b ∈ L2, b ∉ L := fun b hb z => h b z hb
theorem none_of_same {H H' : Hp} {x : Addr} (e : Same H H') (n : H' x = none) : H x = none := by
  cases q : H x with
  | none => rfl
  | some o =>
    rw [e x o q] at n
    cases n
section
variable {M : List Addr} {H0 G0 G H H' : Hp} {O L : List Addr} {p m : Addr} {o : HO}
theorem Sep.h0 (S : Sep M H0 G0 G H O) {b : Addr} (hb : b ∈ O) (hM : b ∉ M) : H0 b = none := (S.ow b hb).2.2.elim (fun z => (hM z).elim) id
theorem g_nl {a : Addr} {o : HO} (h : G a = some o) (S : Sep M H0 G0 G H O) (hL : ∀ b ∈ L, b ∈ O) : ∀ b ∈ L, b ≠ a := fun b hb => (g_ne h S (hL b hb)).symm
theorem b_nl {a : Addr} {o : HO} (h : (hideL M H0) a = some o) (S : Sep M H0 G0 G H O) (hL : ∀ b ∈ L, b ∈ O) : ∀ b ∈ L, b ≠ a := fun b hb => (b_ne h S (hL b hb)).symm
/-- a whole tree that is to stay as it is -/
theorem Sep.freezeL (S : Sep M H0 G0 G H O) {O' : List Addr} (hL : ∀ b ∈ L, b ∈ O) (h0 : ∀ b ∈ L, H0 b = none) (hO : ∀ b ∈ O', b ∈ O ∧ b ∉ L) : ∃ G', Same G G' ∧ Keeps L H G' ∧ Sep M H0 G0 G' H O' := by
  have gn : ∀ b ∈ L, G b = none := fun b hb => (S.ow b (hL b hb)).1
  refine ⟨fun b => if b ∈ L then H b else G b, fun b u q => ?_, fun b hb u q => ?_, S.base, S.pm, fun b u q => ?_, fun b u q => ?_, fun b hb gb => ?_, fun a ha => ?_⟩
  · have n : b ∉ L := fun z => by
      rw [gn b z] at q
      cases q
    show (if b ∈ L then H b else G b) = _
    rw [if_neg n]
    exact q
  · show (if b ∈ L then H b else G b) = _
    rw [if_pos hb]
    exact q
  · by_cases z : b ∈ L
    · exact (if_pos z).symm.trans q
    · exact S.sG b u ((if_neg z).symm.trans q)
  · have z : b ∉ L := fun z => by
      have := S.g0 b u q
      rw [gn b z] at this
      cases this
    show (if b ∈ L then H b else G b) = _
    rw [if_neg z]
    exact S.g0 b u q
  · have z : b ∉ L := fun z => hb (h0 b z)
    show (if b ∈ L then H b else G b) = _
    rw [if_neg z]
    exact S.gn b hb gb
  · obtain ⟨h1, h2⟩ := hO a ha
    refine ⟨?_, (S.ow a h1).2⟩
    show (if a ∈ L then H a else G a) = _
    rw [if_neg h2]
    exact (S.ow a h1).1
/-- a callee hands over a list of lists of its own making -/
theorem Sep.steptree (S : Sep M H0 G0 G H O) {G' : Hp} (e : Same H H') (eG : Same G G') (sG : Same G' H') (hn : ∀ b, H b ≠ none → G b = none → G' b = none) (L : List Addr) (hL : ∀ b ∈ L, H b = none ∧ G' b = none ∧ H' b ≠ none) : Sep M H0 G0 G' H' (L ++ O) := by
  have S2 := S.step e eG sG hn
  refine ⟨S2.base, S2.pm, S2.sG, S2.g0, S2.gn, all_app (fun b hb => ⟨(hL b hb).2.1, (hL b hb).2.2, .inr (S.free (hL b hb).1)⟩) S2.ow⟩
end
theorem Rp.list_of {α : Type} {g : α → PyData} {H : Hp} {a : Addr} {vs : List V} {xs : List α} (h : H a = some (.lst vs)) (r : RpAll H vs (xs.map g)) : Rp H (.ref a) (encL g xs) := .lst h r
/-! ### repr of data -/
mutual
def nodes : PyData → Nat
  | .list xs => 1 + nodesAll xs
  | .tuple xs => 1 + nodesAll xs
  | _ => 1
def nodesAll : List PyData → Nat
  | [] => 0
  | x :: xs => nodes x + nodesAll xs
end
mutual
def smallD : PyData → Bool
  | .none => true
  | .bool _ => true
  | .int i => decide (i.natAbs < 10 ^ 19)
  | .str x => decide ((reprText x).length ≤ 20)
  | .list xs => smallAll xs
  | .tuple xs => smallAll xs
  | _ => false
def smallAll : List PyData → Bool
  | [] => true
  | x :: xs => smallD x && smallAll xs
end
theorem piled_list (ts : List Str) : (listText ts).length ≤ piled ts + 2 := by
  cases ts with
  | nil => exact Nat.le_refl 2
  | cons t r =>
    have e : (listText (t :: r)).length = (textFrom 1 ("[" ++ ("" : String) ++ t) r).length + 1 := by
      show (textFrom 0 "[" (t :: r) ++ "]").length = _
      rw [strLen_append]
      rfl
    rw [e, textFrom_length_pos r 1 _ (by decide), piled_cons, strLen_append, strLen_append]
    have h1 : (("[" : String) : Str).length = 1 := rfl
    have h2 : (("" : String) : Str).length = 0 := rfl
    omega
theorem piled_tup (ts : List Str) : (tupleText ts).length ≤ piled ts + 3 := by
  unfold tupleText
  rw [strLen_append, strLen_append]
  have h1 : (("(" : String) : Str).length = 1 := rfl
  have h2 : (((if ts.length == 1 then ",)" else ")" : String) : Str)).length ≤ 2 := by split <;> decide
  by_cases h : ts = []
  · subst h
    exact Nat.le_of_lt (by decide)
  · have := join_length_add ts h
    omega
mutual
theorem small_shown : ∀ d : PyData, smallD d = true → d.shown.length + 4 ≤ 26 * nodes d ∧ d.showable = true ∧ d.hasDict = false
  | .none, _ => ⟨by simp only [PyData.shown, nodes]; decide, by simp [PyData.showable], by simp [PyData.hasDict]⟩
  | .bool b, _ => ⟨by cases b <;> simp only [PyData.shown, nodes] <;> decide, by simp [PyData.showable], by simp [PyData.hasDict]⟩
  | .int i, h => by
    have h : i.natAbs < 10 ^ 19 := by simpa [smallD] using h
    refine ⟨?_, ?_, by simp [PyData.hasDict]⟩
    · have := int_text_length_le10 (k := 19) (by decide) h
      simp only [PyData.shown, nodes]
      rw [PySem.ofString_length]
      omega
    · simp only [PyData.showable, decide_eq_true_eq]
      have : i.natAbs < 2 ^ 64 := by omega
      rcases Nat.eq_zero_or_pos i.natAbs with z | z
      · rw [z]
        decide
      · have := (Nat.log2_lt (by omega)).mpr this
        omega
  | .str x, h => by
    have h : (reprText x).length ≤ 20 := by simpa [smallD] using h
    refine ⟨by simp only [PyData.shown, nodes]; omega, by simp [PyData.showable], by simp [PyData.hasDict]⟩
  | .list xs, h => by
    obtain ⟨h1, h2, h3⟩ := small_shownAll xs (by simpa [smallD] using h)
    refine ⟨?_, by simpa [PyData.showable] using h2, by simpa [PyData.hasDict] using h3⟩
    have := piled_list (PyData.shownAll xs)
    simp only [PyData.shown, nodes]
    omega
  | .tuple xs, h => by
    obtain ⟨h1, h2, h3⟩ := small_shownAll xs (by simpa [smallD] using h)
    refine ⟨?_, by simpa [PyData.showable] using h2, by simpa [PyData.hasDict] using h3⟩
    have := piled_tup (PyData.shownAll xs)
    simp only [PyData.shown, nodes]
    omega
  | .dict kvs, h => by simp [smallD] at h
theorem small_shownAll : ∀ ds : List PyData, smallAll ds = true → piled (PyData.shownAll ds) ≤ 26 * nodesAll ds ∧ PyData.showableAll ds = true ∧ PyData.hasDictAll ds = false
  | [], _ => ⟨by simp [PyData.shownAll, nodesAll, piled], by simp [PyData.showableAll], by simp [PyData.hasDictAll]⟩
  | d :: ds, h => by
    have h : smallD d = true ∧ smallAll ds = true := by simpa [smallAll] using h
    obtain ⟨a1, a2, a3⟩ := small_shown d h.1
    obtain ⟨b1, b2, b3⟩ := small_shownAll ds h.2
    refine ⟨?_, by simp [PyData.showableAll, a2, b2], by simp [PyData.hasDictAll, a3, b3]⟩
    simp only [PyData.shownAll, nodesAll, piled_cons]
    omega
end
/-- data that repr may show -/
def ShowOk (d : PyData) : Prop := smallD d = true ∧ nodes d ≤ 600000 ∧ d.depth ≤ 60
instance (d : PyData) : Decidable (ShowOk d) := by unfold ShowOk; infer_instance
def rRepr : List V → Hp → VK → Prop := fun xs H Q => ∃ (a : Addr) (d : PyData), xs = [.ref a] ∧ Rp H (.ref a) d ∧ ShowOk d ∧ Q (.str d.shown) H
theorem call_reprD {X : Cx} (hg : X.A.guards = some []) (hu : X.A.units + 64 < cLine) : CallR X (.builtin "repr") rRepr := by
  intro pins s σ H xs us Q I r h
  obtain ⟨a, d, rfl, rp, ⟨ok, nd, dp⟩, q⟩ := h
  obtain ⟨h1, h2, h3⟩ := small_shown d ok
  cases r with
  | cons ra rn =>
    cases rn
    cases ra
    obtain ⟨as, reads⟩ := Dp.reads I d _ _ rp.dp rfl
    refine repr_of_reads' reads h2 (PyData.noDict_hsm h3) hg (by omega) (fun _ _ e => e) (fun h' u tk k => ⟨.str d.shown, H, I.kept k, ⟨u, rfl⟩, q⟩) ?_
    show d.shown.length ≤ 2 ^ 24
    omega
/-- small data: nodes, depth -/
def Sm (n k : Nat) (d : PyData) : Prop := smallD d = true ∧ nodes d ≤ n ∧ d.depth ≤ k
theorem Sm.imp {n k n' k' : Nat} {d : PyData} (h : Sm n k d) (a : n ≤ n') (b : k ≤ k') : Sm n' k' d := ⟨h.1, Nat.le_trans h.2.1 a, Nat.le_trans h.2.2 b⟩
theorem Sm.show {n k : Nat} {d : PyData} (h : Sm n k d) (a : n ≤ 600000 := by decide) (b : k ≤ 60 := by decide) : ShowOk d := h.imp a b
theorem sm_non : Sm 1 0 .none := ⟨by simp [smallD], by simp [nodes], by simp [PyData.depth]⟩
theorem sm_bool (b : Bool) : Sm 1 0 (.bool b) := ⟨by simp [smallD], by simp [nodes], by simp [PyData.depth]⟩
theorem sm_int {i : Int} (h : -10000000000000000000 < i ∧ i < 10000000000000000000) : Sm 1 0 (.int i) := ⟨by simp only [smallD, decide_eq_true_eq]; omega, by simp [nodes], by simp [PyData.depth]⟩
theorem sm_all {α : Type} {f : α → PyData} {n k : Nat} : ∀ {xs : List α}, (∀ x ∈ xs, Sm n k (f x)) → smallAll (xs.map f) = true ∧ nodesAll (xs.map f) ≤ xs.length * n ∧ PyData.depthAll (xs.map f) ≤ k
  | [], _ => ⟨by simp [smallAll], by simp [nodesAll], by simp [PyData.depthAll]⟩
  | x :: xs, h => by
    obtain ⟨a1, a2, a3⟩ := h x List.mem_cons_self
    obtain ⟨b1, b2, b3⟩ := sm_all fun y hy => h y (List.mem_cons_of_mem _ hy)
    refine ⟨by simp [smallAll, a1, b1], ?_, ?_⟩
    · simp only [List.map_cons, nodesAll, List.length_cons, Nat.succ_mul]
      omega
    · simp only [List.map_cons, PyData.depthAll]
      omega
theorem sm_L {α : Type} {f : α → PyData} {n k m : Nat} {xs : List α} (h : ∀ x ∈ xs, Sm n k (f x)) (hm : xs.length ≤ m) : Sm (1 + m * n) (k + 1) (encL f xs) := by
  obtain ⟨a1, a2, a3⟩ := sm_all h
  refine ⟨by simp [encL, smallD, a1], ?_, ?_⟩
  · have := Nat.mul_le_mul_right n hm
    simp only [encL, nodes]
    omega
  · simp only [encL, PyData.depth]
    omega
theorem sm_ints {xs : List Int} {m : Nat} (h : ∀ x ∈ xs, -10000000000000000000 < x ∧ x < 10000000000000000000) (hm : xs.length ≤ m) : Sm (1 + m * 1) 1 (encL PyData.int xs) := sm_L (fun x hx => sm_int (h x hx)) hm
theorem sm_T2 {α β : Type} {f : α → PyData} {g : β → PyData} {n k m j : Nat} {p : α × β} (h1 : Sm n k (f p.1)) (h2 : Sm m j (g p.2)) : Sm (1 + n + m) (max k j + 1) (encT2 f g p) := by
  obtain ⟨a1, a2, a3⟩ := h1
  obtain ⟨b1, b2, b3⟩ := h2
  refine ⟨by simp [encT2, smallD, smallAll, a1, b1], ?_, ?_⟩
  · simp only [encT2, nodes, nodesAll]
    omega
  · simp only [encT2, PyData.depth, PyData.depthAll]
    omega
theorem sm_T3 {α β γ : Type} {f : α → PyData} {g : β → PyData} {h : γ → PyData} {n k m j l i : Nat} {p : α × β × γ} (h1 : Sm n k (f p.1)) (h2 : Sm m j (g p.2.1)) (h3 : Sm l i (h p.2.2)) : Sm (1 + n + m + l) (max k (max j i) + 1) (encT3 f g h p) := by
  obtain ⟨a1, a2, a3⟩ := h1
  obtain ⟨b1, b2, b3⟩ := h2
  obtain ⟨c1, c2, c3⟩ := h3
  refine ⟨by simp [encT3, smallD, smallAll, a1, b1, c1], ?_, ?_⟩
  · simp only [encT3, nodes, nodesAll]
    omega
  · simp only [encT3, PyData.depth, PyData.depthAll]
    omega
end Vx
namespace Vx
open PySem PySem.Spec PyProof.Rows L2
theorem new_ne2 {H : Hp} {L : List Addr} {x : Addr} (n : ∀ b ∈ L, H b = none) (h : H x ≠ none) : ∀ b ∈ L, b ≠ x := fun b hb z => h (z ▸ n b hb)
theorem upd_tree {α : Type} {f : α → Dt} {G H H' : Hp} {L L1 : List Addr} {vs : List V} {xs : List α} {k : Int} {v : V} {m : Addr} {y : α} (up : ∀ H' y, (∀ b ∈ L, b ∉ L1 → ∀ o, H b = some o → H' b = some o) → Ow G H' L1 v (f y) → OwAll G H' L vs ((setL xs k y).map f)) (x : SameX m H H') (hm : m ∈ L1) (w : Ow G H' L1 v (f y)) :
    OwAll G H' L vs ((setL xs k y).map f) := up H' y (fun c _ n o q => x c o q (fun z => n (z ▸ hm))) w
theorem Ow.toFrz {α : Type} {f : α → PyData} {G H : Hp} {L : List Addr} {v : V} {x : α} (w : Ow G H L v (oF f x)) : L = [] ∧ Rp G v (f x) := by
  unfold oF at w
  cases w with
  | frz r => exact ⟨rfl, r⟩
section
variable {α : Type} {f : α → Dt} {G H : Hp} {L : List Addr} {vs : List V} {xs : List α}
theorem OwAll.pin {i : Nat} {v : V} {x : α} (w : OwAll G H L vs (xs.map f)) (h : vs[i]? = some v) (hx : xs[i]? = some x) : ∃ L1, Ow G H L1 v (f x) ∧ ∀ b ∈ L1, b ∈ L := by
  obtain ⟨y, L1, h1, h2, h3⟩ := OwAll.turn w h
  rw [hx] at h1
  cases h1
  exact ⟨L1, h2, h3⟩
theorem OwAll.pinInts {i : Nat} {b : Addr} {xs : List (List Int)} {x : List Int} (w : OwAll G H L vs (xs.map (oL oI))) (h : vs[i]? = some (.ref b)) (hx : xs[i]? = some x) : H b = some (.lst (x.map V.int)) ∧ b ∈ L := by
  obtain ⟨L1, w1, h1⟩ := OwAll.pin w h hx
  obtain ⟨c, e, rfl, h2⟩ := Ow.toInts w1
  cases e
  exact ⟨h2, h1 _ List.mem_cons_self⟩
end
end Vx
namespace Vx
open PySem PySem.Spec PyProof.Rows L2
theorem lookup_relab {c : Str → Bool} {y : Str} : ∀ l : List (Str × NameKind), (l.lookup y = some .cell ∨ l.lookup y = some .free) →
    ((l.map fun (n, k) => if (k == .free && c n) then (n, NameKind.cell) else (n, k)).lookup y = some .cell ∨ (l.map fun (n, k) => if (k == .free && c n) then (n, NameKind.cell) else (n, k)).lookup y = some .free)
  | [], h => by simp at h
  | (n, k) :: r, h => by
    rw [List.map_cons]
    dsimp only
    by_cases e : y == n
    · have hk : k = .cell ∨ k = .free := by
        rw [List.lookup_cons, e] at h
        simpa using h
      by_cases q : (k == .free && c n) = true
      · left
        rw [if_pos q, List.lookup_cons, e]
      · rw [if_neg q, List.lookup_cons, e]
        simpa using hk
    · have e : (y == n) = false := by simpa using e
      rw [List.lookup_cons, e] at h
      have ih := lookup_relab (c := c) r h
      by_cases q : (k == .free && c n) = true
      · rw [if_pos q, List.lookup_cons, e]
        exact ih
      · rw [if_neg q, List.lookup_cons, e]
        exact ih
theorem blk_relabel {N : List Str} {sc scope : Scope} {env : Env} {own : List (Str × Nat)} (h : BlkOk N sc scope own) : BlkOk N (relabel sc env) scope own := by
  refine ⟨h.kind, h.uniq, h.ix, fun y hy e => ?_, h.own⟩
  have z := lookup_relab (c := fun n => env.scope.kind == .function && env.kindOf n == some .cell) (y := y.1) sc.names (h.free y hy e)
  unfold relabel
  simpa only [Bool.and_assoc] using z
end Vx
namespace Vx
open PySem PySem.Spec PyProof.Rows L2
theorem FnG.low {P : Program} {w : World} {K : PySem.W.Frag} {mg : Str → Option Value} {base : Heap} {cx : CXT} {j k : Nat} {f : Addr} {fd : FuncData} {ps : List Str} {sp : Sp} (F : FnG P w K mg base cx j f fd ps sp) (h : j ≤ k) : FnG P w K mg base cx k f fd ps sp := ⟨F.len, fun A o s H a us vs Q E r => F.run A o s H a us vs Q E (r.low h)⟩
/-! ### a local name that holds one of several defs -/
structure HeldX (P : Program) (w : World) (K : PySem.W.Frag) (mg : Str → Option Value) (base : Heap) (k n : Nat) (f : Addr) (sp : Sp) : Prop where
  ex : ∃ (fd : FuncData) (ps : List Str), FnG P w K mg base (L2.CX P w) k f fd ps sp ∧ PySem.W.keepIn K (.ref f) = true ∧ Bnd K fd ps n [] (fun vs _ => vs)
theorem HeldX.of {P : Program} {w : World} {K : PySem.W.Frag} {mg : Str → Option Value} {base : Heap} {j k n : Nat} {x : Str} {sp : Sp} {pats : List Pat} {a : Addr} (c : CalX P w K mg base j x sp pats) (hx : mg x = some (.ref a)) (hp : (n, [], fun vs _ => vs) ∈ pats) (hj : j ≤ k) : HeldX P w K mg base k n a sp := by
  obtain ⟨f, fd, ps, F, hm, kp, b⟩ := c.ex
  rw [hx] at hm
  injection hm with hm
  injection hm with hm
  subst hm
  exact ⟨fd, ps, F.low hj, kp, b _ hp⟩
def tCallF (i n : Nat) (L : List (Addr × Sp)) (W : WX) (t : TA) : TE := fun σ H Q => ∃ f sp, σ[i]? = some (some (.ref f)) ∧ (f, sp) ∈ L ∧ t σ H fun vs H1 => vs.length = n ∧ ([] : List V).length = 0 ∧ sp vs H1 Q (WE W σ)
theorem vx_callF {X : Cx} {k j i n : Nat} {x : Str} {p pos : Pos} {e : Expr} {es : List Expr} {t : TA} {W : WX} (L : List (Addr × Sp)) (A : ∀ q ∈ L, HeldX X.prog X.w X.K X.mg X.base k n q.1 q.2) (hr : RoomG j X.A) (hk : k ≤ j) (tkW : Takes X W) (hN : X.N[i]? = some x) (hv : Vis X.env.scope x) (ha : PA X (e :: es) t)
    (hdb : (x == ("__debug__" : Str)) = false := by decide) (hcd : (x == ("__classdict__" : Str)) = false := by decide) (he : starEach (e :: es) X.env = (false, eval e X.env) :: starEach es X.env := by rfl) (hpl : (backTo pos (starEach es X.env)).any (·.1) = false := by rfl) :
    PE X (.Call (.Name x p) (e :: es) [] pos) (tCallF i n L W t) := by
  constructor
  intro pins s σ H Q I h
  obtain ⟨f, sp, slot, mem, rest⟩ := h
  obtain ⟨fd, ps, F, kp, b⟩ := (A _ mem).ex
  refine wpAny_Call_Name_kw (thn ((pe_var (pos := p) hN hv hdb hcd).run pins s σ H (fun v H1 => v = .ref f ∧ H1 = H) I ⟨.ref f, slot, rfl, rfl⟩) ?_)
  rintro u s1 ⟨v, H1, I1, r1, rfl, rfl⟩
  cases r1
  refine PySem.W.callWith_K (h₀ := X.base) I.ok.mod.kin kp (thn (ha.run pos pins s1 σ _ _ I1 rest) ?_) he hpl
  rintro us s2 ⟨vs, H2, I2, r, l1, l2, q⟩
  exact ⟨I2.kIn, run_X (us := us) (ws := []) (zs := []) F (hr.low hk) b tkW I2 r .nil l1 l2 q⟩
/-! ### the least of a list, the place of an item -/
def minL : List Int → Int
  | [] => 0
  | [x] => x
  | x :: y :: r => if x ≤ minL (y :: r) then x else minL (y :: r)
theorem minL_spec : ∀ (xs : List Int), xs ≠ [] → minL xs ∈ xs ∧ ∀ y ∈ xs, minL xs ≤ y
  | [], h => absurd rfl h
  | [x], _ => ⟨List.mem_cons_self, fun y hy => by rw [List.mem_singleton.mp hy]; exact Int.le_refl x⟩
  | x :: y :: r, _ => by
    obtain ⟨h1, h2⟩ := minL_spec (y :: r) (fun z => nomatch z)
    unfold minL
    split
    · refine ⟨List.mem_cons_self, fun z hz => ?_⟩
      rcases List.mem_cons.mp hz with rfl | hz
      · exact Int.le_refl _
      · have := h2 z hz
        omega
    · refine ⟨List.mem_cons_of_mem _ h1, fun z hz => ?_⟩
      rcases List.mem_cons.mp hz with rfl | hz
      · omega
      · exact h2 z hz
def maxL (xs : List Int) : Int := -(minL (xs.map fun x => -x))
theorem maxL_spec (xs : List Int) (h : xs ≠ []) : maxL xs ∈ xs ∧ ∀ y ∈ xs, y ≤ maxL xs := by
  obtain ⟨h1, h2⟩ := minL_spec (xs.map fun x => -x) (by simpa using h)
  obtain ⟨z, hz, e⟩ := List.mem_map.mp h1
  unfold maxL
  refine ⟨by rw [← e, Int.neg_neg]; exact hz, fun y hy => ?_⟩
  have := h2 _ (List.mem_map_of_mem hy)
  omega
section
variable {X : Cx} {K : PySem.W.Frag}
def rMinL (K : PySem.W.Frag) : List V → Hp → VK → Prop := fun vs H Q => ∃ (a : Addr) (ns : List Int), vs = [V.ref a] ∧ SqL K H a (ns.map V.int) ∧ ns ≠ [] ∧ Q (.int (minL ns)) H
def rMaxL (K : PySem.W.Frag) : List V → Hp → VK → Prop := fun vs H Q => ∃ (a : Addr) (ns : List Int), vs = [V.ref a] ∧ SqL K H a (ns.map V.int) ∧ ns ≠ [] ∧ Q (.int (maxL ns)) H
theorem cr_minL (hc : X.calm = true) (hK : X.K = K := by rfl) : CallR X (.builtin "min") (rMinL K) := by
  subst hK
  intro pins s σ H vs us Q I r h
  obtain ⟨a, ns, rfl, hs, hn, q⟩ := h
  refine cr_min hc pins s σ H _ us Q I r ⟨a, ns, rfl, hs, List.length_pos_iff.mpr hn, fun m hm hle => ?_⟩
  obtain ⟨h1, h2⟩ := minL_spec ns hn
  have e : m = minL ns := Int.le_antisymm (by have := hle _ h1; omega) (h2 m hm)
  rw [e]
  exact q
theorem cr_maxL (hc : X.calm = true) (hK : X.K = K := by rfl) : CallR X (.builtin "max") (rMaxL K) := by
  subst hK
  intro pins s σ H vs us Q I r h
  obtain ⟨a, ns, rfl, hs, hn, q⟩ := h
  refine cr_max hc pins s σ H _ us Q I r ⟨a, ns, rfl, hs, List.length_pos_iff.mpr hn, fun m hm hle => ?_⟩
  obtain ⟨h1, h2⟩ := maxL_spec ns hn
  have e : m = maxL ns := Int.le_antisymm (h2 m hm) (by have := hle _ h1; omega)
  rw [e]
  exact q
end
end Vx
namespace Vx
open PySem PySem.Spec PyProof.Rows L2
def idxL (ns : List Int) (i : Int) : Int := (ns.idxOf i : Nat)
def rIndexI (K : PySem.W.Frag) : V → List V → Hp → VK → Prop := fun x xs H Q => ∃ (a : Addr) (ns : List Int) (i : Int), x = V.ref a ∧ xs = [.int i] ∧ SqL K H a (ns.map V.int) ∧ i ∈ ns ∧ Q (.int (idxL ns i)) H
theorem mt_indexI {X : Cx} {K : PySem.W.Frag} (hK : X.K = K := by rfl) : MtR X "list.index" (rIndexI K) := by
  subst hK
  intro pins s σ H x xs v us Q I rx rxs h
  obtain ⟨a, ns, i, rfl, rfl, hs, hi, q⟩ := h
  have hl := List.idxOf_lt_length_of_mem hi
  refine mt_index pins s σ H _ _ v us Q I rx rxs ⟨a, _, .int i, ns.idxOf i, .int i, rfl, rfl, hs, rfl, flat_ints ns, ?_, by simp [eqV], fun m z hm hz => ?_, q⟩
  · rw [List.getElem?_map, List.getElem?_eq_getElem hl, List.getElem_idxOf hl] <;> rfl
  · rw [List.getElem?_map] at hz
    cases e : ns[m]? with
    | none => rw [e] at hz; cases hz
    | some y =>
      rw [e] at hz
      cases hz
      have hml : m < ns.length := by omega
      have hy : ns[m] = y := by
        rw [List.getElem?_eq_getElem hml] at e
        exact Option.some.inj e
      have := List.not_of_lt_findIdx (p := (· == i)) (xs := ns) (i := m) hm
      simp only [beq_iff_eq, hy] at this
      simp [eqV, this]
theorem cW_aftgo {σ ρ τ : Type} {s : σ} {kr : ρ → Rx τ} {k : σ → Rx τ} {K : τ → Prop} {E : Nat → Prop} (h : cW ((Lp.go s : Lp σ ρ).aft kr k) K E) : cW (k s) K E := h
end Vx
namespace Vx
open PySem PySem.Spec PyProof.Rows L2
/-! ### a truth value or a number beside a number -/
def Bi.num : Bi → Int
  | .b x => if x then 1 else 0
  | .n i => i
def Bi.dat : Bi → PyData
  | .b x => .bool x
  | .n i => .int i
section
variable {X : Cx}
def rEqBI : R2 := fun x y H Q => ∃ (b : Bi) (i : Int), x = biV b ∧ y = .int i ∧ Q (.bl (decide (b.num = i))) H
def rNeBI : R2 := fun x y H Q => ∃ (b : Bi) (i : Int), x = biV b ∧ y = .int i ∧ Q (.bl (!decide (b.num = i))) H
theorem eqv_bi (b : Bi) (i : Int) : PyData.eqv b.dat (.int i) = decide (b.num = i) := by
  cases b with
  | b x => cases x <;> (rw [Bool.eq_iff_iff]; simp [Bi.dat, Bi.num, PyData.eqv])
  | n j =>
    rw [Bool.eq_iff_iff]
    simp only [Bi.dat, Bi.num, PyData.eqv, beq_iff_eq]
    exact decide_eq_true_iff.symm
theorem dp_bi {K : PySem.W.Frag} {H : Hp} : ∀ b : Bi, Dp K H (biV b) b.dat
  | .b x => .bl x
  | .n i => .int i
theorem shaped_bi : ∀ b : Bi, SeqAt.shaped b.dat = true
  | .b x => by unfold SeqAt.shaped; simp [Bi.dat, PyData.canLay0, PyData.depth]
  | .n i => by unfold SeqAt.shaped; simp [Bi.dat, PyData.canLay0, PyData.depth]
theorem op_eqBI (hu : X.A.units + 64 < cLine) : OpR X (compareOp .Eq) rEqBI := by
  intro pins s σ H x y v u Q I rx ry h
  obtain ⟨b, i, rfl, rfl, q⟩ := h
  exact op_eqD hu pins s σ H _ _ v u Q I rx ry ⟨b.dat, .int i, dp_bi b, .int i, shaped_bi b, shaped_bi (.n i), by rw [eqv_bi]; exact q⟩
theorem op_neBI (hu : X.A.units + 64 < cLine) : OpR X (compareOp .NotEq) rNeBI := by
  intro pins s σ H x y v u Q I rx ry h
  obtain ⟨b, i, rfl, rfl, q⟩ := h
  exact op_neD hu pins s σ H _ _ v u Q I rx ry ⟨b.dat, .int i, dp_bi b, .int i, shaped_bi b, shaped_bi (.n i), by rw [eqv_bi]; exact q⟩
end
end Vx
namespace Vx
open PySem PySem.Spec PyProof.Rows L2
/-! ### == of own objects by an own __eq__ that never raises -/
section
variable {X : Cx} {k j : Nat}
def rEqX (C : Addr) (n mm : Nat) (sp : Sp) (g : List V → List V → List V) : R2 := fun x y H Q => ∃ (a b dx dy : Addr) (fs gs : List (Str × V)), x = .ref a ∧ y = .ref b ∧ H a = some (.ins C dx fs) ∧ H b = some (.ins C dy gs) ∧ 2 = n ∧ 0 = mm ∧ sp (g [x, y] []) H (fun v H' => (∃ r, v = .bl r) ∧ Q v H') E0
theorem op_eqX {C : Addr} {sp : Sp} {pats : List Pat} (c : MetX X.prog X.w X.K X.mg X.base k C "__eq__" sp pats) (pt : Pat) (hpt : pt ∈ pats) (hr : RoomG j X.A) (hk : k ≤ j) (hks : pt.2.1 = [] := by rfl) : OpR X (compareOp .Eq) (rEqX C pt.1 pt.2.1.length sp pt.2.2) := by
  intro pins s σ H x y v u Q I rx ry hq
  obtain ⟨a, b, dx, dy, fs, gs, rfl, rfl, ha, hb', l1, l2, q⟩ := hq
  obtain ⟨f, fd, ps, hc, hm, F, bb⟩ := c.ex
  cases rx
  cases ry
  obtain ⟨mA, J, _⟩ := ins_get I.hok ha
  obtain ⟨mB, J', _⟩ := ins_get I.hok hb'
  obtain ⟨od, J, _⟩ := J.look
  obtain ⟨od', J', _⟩ := J'.look
  obtain ⟨m, hF⟩ := I.fr
  have hz := run_X (us := [.ref a, .ref b]) (vs := [.ref a, .ref b]) (ws := []) (zs := []) F (hr.low hk) (bb pt hpt) (takes0 (X := X)) I (.cons rfl (.cons rfl .nil)) .nil l1 l2 q
  rw [hks] at hz
  show wpAny (model X.prog X.w) X.A (richCompare .Eq (.ref a) (.ref b)) (EP X pins σ Q) X.xe s
  refine PySem.W.cmp_K (op := .Eq) (tb := .ref C) (hr.low hk).toRoom.units0 hF I.ok.mod.kin J J'.type (by simp [PySem.W.notFirst]) hm.at_ hm.fn ?_
  refine wpAny_mono hz (fun r s' z => ?_) fun _ _ e => e
  obtain ⟨w, H', I', rw', ⟨⟨q1, rfl⟩, q2⟩⟩ := z
  cases rw'
  exact ⟨V.bl q1, H', I', rfl, q2⟩
end
end Vx
namespace Vx
open PySem PySem.Spec PyProof.Rows L2
/-! ### isinstance of the exception in hand: a built-in class, a tuple of classes -/
theorem kit_blt {K : PySem.W.Frag} {D : Addr} {T : String} {b : Bool} (h : PySem.W.subIn K (.ref D) (.type T) = some b) (h0 : PySem.W.kitMeta T = true := by decide +kernel) : PySem.W.kitOne K (.ref D) (.type T) = some b := by
  unfold PySem.W.kitOne
  rw [if_neg (show ¬ (Value.ref D == Value.type T) = true from fun z => nomatch (show false = true from z))]
  show (if PySem.W.kitMeta T = true then PySem.W.subIn K (.ref D) (.type T) else none) = some b
  rw [if_pos h0, h]
def rIsXB (K : PySem.W.Frag) (a : Addr) (cls : Value) (d : Option Addr) : List V → Hp → VK → Prop := fun xs H Q => ∃ (D : Addr) (T : String) (b : Bool), cls = .ref D ∧ d = none ∧ ExcC K D ∧ xs = [.ref a, .ty T] ∧ PySem.W.kitOne K (.ref D) (.type T) = some b ∧ Q (.bl b) H
theorem call_isXB {X : Cx} {K : PySem.W.Frag} {a : Addr} {cls : Value} {d : Option Addr} {oe : Obj} {pn : List (Addr × Obj)} (hz : Zc cls d oe) (hf : ∃ vs, oe.data = .fields vs) (hK : X.K = K := by rfl) : CallR (X.suite a ((a, oe) :: pn)) (.builtin "isinstance") (rIsXB K a cls d) := by
  subst hK
  intro pins s σ H xs us Q I r h
  obtain ⟨D, T, b, rfl, rfl, c, rfl, e, q⟩ := h
  exact call_isE c hz hf pins s σ H _ us Q I r ⟨_, _, b, rfl, fun u z => z, e, q⟩
def rIsXT (K : PySem.W.Frag) (a : Addr) (cls : Value) (d : Option Addr) : List V → Hp → VK → Prop := fun xs H Q => ∃ (D tp : Addr) (cs : List V) (ws : List Value) (b : Bool), cls = .ref D ∧ d = none ∧ ExcC K D ∧ xs = [.ref a, .ref tp] ∧ H tp = some (.tup cs) ∧ Paired ClsV cs ws ∧ PySem.W.kitAny K (.ref D) ws = some b ∧ Q (.bl b) H
theorem call_isXT {X : Cx} {K : PySem.W.Frag} {a : Addr} {cls : Value} {d : Option Addr} {oe : Obj} {pn : List (Addr × Obj)} (hz : Zc cls d oe) (hf : ∃ vs, oe.data = .fields vs) (hK : X.K = K := by rfl) : CallR (X.suite a ((a, oe) :: pn)) (.builtin "isinstance") (rIsXT K a cls d) := by
  subst hK
  intro pins s σ H xs us Q I r h
  obtain ⟨D, tp, cs, ws, b, rfl, rfl, C, rfl, hT, k, e, q⟩ := h
  cases r with
  | cons rx rr =>
    cases rr with
    | cons rt rr =>
      cases rr
      cases rx
      cases rt
      obtain ⟨hget, _⟩ := I.pin (a, oe) (List.mem_append.mpr (.inl List.mem_cons_self))
      obtain ⟨vs, hv⟩ := hf
      have J : PySem.W.InstAt s.heap a oe D none := by
        obtain ⟨oc, od, oda, osl⟩ := oe
        obtain ⟨h1, h2⟩ := hz
        dsimp only at h1 h2 hv
        subst h1 h2 hv
        exact ⟨hget, rfl, rfl, trivial⟩
      obtain ⟨_, its, rv, o, h1, h2, n, h3⟩ := (show ObjOk X.prog X.w H s.heap tp (.tup cs) from I.hok tp _ hT)
      have e3 := ClsV.all k rv
      subst e3
      obtain ⟨oc, od, dt, sl⟩ := o
      simp only at h2 h3
      subst h2 h3
      exact PySem.W.kia_tup (PySem.W.handS_kitx_exc C.hg C.hk C.hs C.hd C.ha C.hn C.ht C.hm) I.kIn J h1 e (fun z => nomatch z) fun tk => ⟨.bl b, H, I.kept (t' := tk) fun _ _ z => z, rfl, q⟩
theorem kit_self {K : PySem.W.Frag} {t : Value} (h : (t == t) = true := by simp) : PySem.W.kitOne K t t = some true := by
  unfold PySem.W.kitOne
  rw [if_pos h]
/-- what a class must say, so that isinstance asks its objects rightly -/
structure IsiC (K : PySem.W.Frag) (C : Addr) : Prop where
  ha : PySem.W.findIn K (.ref C) "__class__" = some (some (.builtin "object.__class__"))
  hn : PySem.W.specialIn K (.builtin "object.__class__") "__get__" = some (some (.builtin "getset_descriptor.__get__"))
  ht : PySem.W.takesIn K (.builtin "object.__class__") = some true
  hm : PySem.W.mroIn K C (.type "object") = some true
theorem tyX_ins {K : PySem.W.Frag} {H : Hp} {a C dx : Addr} {fs : List (Str × V)} (e : H a = some (.ins C dx fs)) (cl : Cls K C) (c : IsiC K C) : TyX K H (.ref a) (.ref C) := .base (.ins e cl c.ha c.hn c.ht c.hm)
end Vx
namespace Vx
open PySem PySem.Spec PyProof.Rows L2
theorem op_notTrue {X : Cx} : OpR X (compareOp .IsNot) (fun x y H Q => ∃ b : Bool, x = .bl b ∧ y = .bl true ∧ Q (.bl (!b)) H) := by
  intro pins s σ H x y v u Q I rx ry h
  obtain ⟨b, rfl, rfl, q⟩ := h
  cases rx
  cases ry
  show wpAny (model X.prog X.w) X.A (compareOp .IsNot (.bool b) (.bool true)) (EP X pins σ Q) X.xe s
  have e : compareOp .IsNot (.bool b) (.bool true) = pure (.bool (!b)) := by cases b <;> rfl
  rw [e]
  exact wpAny_pure ⟨.bl (!b), H, I, rfl, q⟩
end Vx
/-! # lists stored into trees -/
namespace Vx
open PySem PySem.Spec PyProof.Rows L2
section
variable {G H I : Hp} {α : Type} {f : α → Dt} {L : List Addr} {vs : List V} {xs : List α}
theorem OwAll.set {L1 : List Addr} {v : V} {d : Dt} (h : Ow G H L1 v d) : ∀ {L : List Addr} {vs : List V} {ds : List Dt} (i : Nat), i < ds.length → OwAll G H L vs ds → (∀ b ∈ L1, b ∉ L) → ∃ L', (∀ b ∈ L', b ∈ L ++ L1) ∧ OwAll G H L' (vs.set i v) (ds.set i d)
  | _, _, _, _, hi, .nil, _ => absurd hi (Nat.not_lt_zero _)
  | _, _, _, 0, _, .cons (L1 := La) (L2 := Lb) a r n, nf => by
    refine ⟨L1 ++ Lb, fun b hb => ?_, .cons h r fun b hb q => nf b hb (List.mem_append_right _ q)⟩
    rcases List.mem_append.mp hb with q | q
    · exact List.mem_append_right _ q
    · exact List.mem_append_left _ (List.mem_append_right _ q)
  | _, _, _, i + 1, hi, .cons (L1 := La) (L2 := Lb) a r n, nf => by
    obtain ⟨L', s, w⟩ := OwAll.set h i (Nat.lt_of_succ_lt_succ hi) r fun b hb q => nf b hb (List.mem_append_right _ q)
    refine ⟨La ++ L', fun b hb => ?_, .cons a w fun b hb q => ?_⟩
    · rcases List.mem_append.mp hb with q | q
      · exact List.mem_append_left _ (List.mem_append_left _ q)
      · rcases List.mem_append.mp (s b q) with z | z
        · exact List.mem_append_left _ (List.mem_append_right _ z)
        · exact List.mem_append_right _ z
    · rcases List.mem_append.mp (s b q) with z | z
      · exact n b hb z
      · exact nf b z (List.mem_append_left _ hb)
theorem ixN_len {k : Int} (e : vs.length = xs.length) (h : -(xs.length : Int) ≤ k ∧ k < xs.length) : ixN vs.length k = some ((ixN vs.length k).getD 0) := by
  rw [e]
  obtain ⟨j, hj, _⟩ := ixN_some h
  rw [hj]
  rfl
theorem OwAll.setM {k : Int} {L1 : List Addr} {v : V} {y : α} (w : OwAll G H L vs (xs.map f)) (h : -(xs.length : Int) ≤ k ∧ k < xs.length) (ow : Ow G H L1 v (f y)) (n : ∀ b ∈ L1, b ∉ L) :
    ∃ L', (∀ b ∈ L', b ∈ L ++ L1) ∧ OwAll G H L' (vs.set ((ixN vs.length k).getD 0) v) ((setL xs k y).map f) := by
  obtain ⟨j, e, hj⟩ := ixN_some h
  obtain ⟨L', s, z⟩ := OwAll.set ow j (by simpa using hj) w n
  refine ⟨L', s, ?_⟩
  unfold setL
  rw [w.lenM, e, List.map_set]
  exact z
end
theorem ne_of_len {α : Type} {xs : List α} (h : xs.length = 4 ∨ xs.length = 6 ∨ xs.length = 8) : xs ≠ [] := by
  rintro rfl
  simp at h
end Vx
namespace Vx
open PySem PySem.Spec PyProof.Rows L2
/-! ### written dicts of ints -/
inductive EI : List (Int × Int) → List DictEntry → Prop
  | nil : EI [] []
  | cons {k v : Int} {t u : Tok} {r : List (Int × Int)} {es : List DictEntry} (h : EI r es) : EI ((k, v) :: r) (⟨hashInt k, .int k t, .int v u⟩ :: es)
def lookI : List (Int × Int) → Int → Option Int
  | [], _ => none
  | (k, v) :: r, i => if i = k then some v else lookI r i
def KDI (K : PySem.W.Frag) (a : Addr) (kvs : List (Int × Int)) : Prop :=
  ∃ es n, K.lookup a = some ⟨.type "dict", none, .dict es n, #[]⟩ ∧ (a == sysModules) = false ∧ EI kvs es.toList
theorem lookI_mem {kvs : List (Int × Int)} {i : Int} : (lookI kvs i).isSome = decide (i ∈ kvs.map (·.1)) := by
  induction kvs with
  | nil => rfl
  | cons p r ih =>
    obtain ⟨k, v⟩ := p
    unfold lookI
    by_cases q : i = k
    · rw [if_pos q]; simp [q]
    · rw [if_neg q, ih]; simp [q]
theorem EI.find {i : Int} : ∀ {kvs : List (Int × Int)} {es : List DictEntry}, EI kvs es → match lookI kvs i with
    | some v => ∃ u, (es.find? fun e => keyIs (.inl i) e.key).map (·.val) = some (.int v u)
    | none => (es.find? fun e => keyIs (.inl i) e.key).map (·.val) = none
  | _, _, .nil => rfl
  | _, _, .cons (k := k) (v := v) (t := t) (u := u) (r := r) (es := es) h => by
    have ih := EI.find (i := i) h
    unfold lookI
    by_cases q : i = k
    · subst q
      rw [if_pos rfl]
      refine ⟨u, ?_⟩
      rw [List.find?_cons_of_pos (by exact keyIs_int i t)]
      rfl
    · rw [if_neg q]
      have e : ¬ (keyIs (.inl i) (Value.int k t) = true) := by
        intro z
        obtain ⟨t', e'⟩ := Value.isInt_shape (k := i) (v := Value.int k t) z
        injection e' with e1 _
        exact q e1.symm
      rw [List.find?_cons_of_neg (by exact e)]
      exact ih
theorem EI.keys {P : Program} {w : World} : ∀ {kvs : List (Int × Int)} {es : List DictEntry}, EI kvs es → ∀ e ∈ es, ∃ k, (mixKind P w).is k e.key = true ∧ e.hash = (mixKind P w).hash k
  | _, _, .nil, e, he => nomatch he
  | _, _, .cons (k := k) (t := t) h, e, he => by
    rcases List.mem_cons.mp he with rfl | he
    · exact ⟨.inl k, keyIs_int k t, rfl⟩
    · exact EI.keys h e he
section
variable {X : Cx} {K : PySem.W.Frag}
theorem KDI.map {d : Addr} {kvs : List (Int × Int)} {pins : List (Addr × Obj)} {σ : L2.St} {H : Hp} {s : Shared} (D : KDI X.K d kvs) (I : Inv X pins σ H s) : (d == sysModules) = false ∧ ∃ f, s.heap.MapOf (mixKind X.prog X.w) d f ∧ ∀ i, match lookI kvs i with
    | some v => ∃ u, f (.inl i) = some (.int v u)
    | none => f (.inl i) = none := by
  obtain ⟨es, n, hl, hd, he⟩ := D
  refine ⟨hd, fun k => findBy keyIs es k, ⟨_, es, n, I.kIn _ _ hl, ⟨rfl, rfl, rfl⟩, rfl, fun e q => EI.keys he e (Array.mem_toList_iff.mpr q), fun _ => rfl⟩, fun i => ?_⟩
  have := EI.find (i := i) he
  have e : findBy keyIs es (.inl i) = (es.toList.find? fun e => keyIs (.inl i) e.key).map (·.val) := by
    obtain ⟨l⟩ := es
    unfold findBy
    rw [List.find?_toArray]
  show match lookI kvs i with
    | some v => ∃ u, findBy keyIs es (.inl i) = some (.int v u)
    | none => findBy keyIs es (.inl i) = none
  rw [e]
  exact this
def rInDI (K : PySem.W.Frag) : R2 := fun x y H Q => ∃ (i : Int) (d : Addr) (kvs : List (Int × Int)) (ks : List Int), x = .int i ∧ y = .ref d ∧ KDI K d kvs ∧ ks = kvs.map (·.1) ∧ Q (.bl (decide (i ∈ ks))) H
def rNotInDI (K : PySem.W.Frag) : R2 := fun x y H Q => ∃ (i : Int) (d : Addr) (kvs : List (Int × Int)) (ks : List Int), x = .int i ∧ y = .ref d ∧ KDI K d kvs ∧ ks = kvs.map (·.1) ∧ Q (.bl (!decide (i ∈ ks))) H
def rIxDI (K : PySem.W.Frag) : R2 := fun x y H Q => ∃ (d : Addr) (i v : Int) (kvs : List (Int × Int)), x = .ref d ∧ y = .int i ∧ KDI K d kvs ∧ lookI kvs i = some v ∧ Q (.int v) H
theorem op_inDI (hK : X.K = K := by rfl) : OpR X (compareOp .In) (rInDI K) := by
  subst hK
  intro pins s σ H x y v u Q I rx ry h
  obtain ⟨i, d, kvs, ks, rfl, rfl, D, rfl, q⟩ := h
  rw [← lookI_mem] at q
  obtain ⟨t, rfl⟩ := rx
  cases ry
  obtain ⟨hd, f, hm, hf⟩ := D.map I
  refine wpAny_in_of (knd := mixKind X.prog X.w) (kV_is (k := .inl i) ⟨t, rfl⟩) hd hm ?_
  have e : (f (.inl i)).isSome = (lookI kvs i).isSome := by
    have := hf i
    split at this
    · next v hv => obtain ⟨u, hu⟩ := this; rw [hu, hv]; rfl
    · next hv => rw [this, hv]; rfl
  rw [e]
  exact ⟨.bl (lookI kvs i).isSome, H, I.tok _, rfl, q⟩
theorem op_notInDI (hK : X.K = K := by rfl) : OpR X (compareOp .NotIn) (rNotInDI K) := by
  subst hK
  intro pins s σ H x y v u Q I rx ry h
  obtain ⟨i, d, kvs, ks, rfl, rfl, D, rfl, q⟩ := h
  rw [← lookI_mem] at q
  obtain ⟨t, rfl⟩ := rx
  cases ry
  obtain ⟨hd, f, hm, hf⟩ := D.map I
  refine wpAny_notIn_of (knd := mixKind X.prog X.w) (kV_is (k := .inl i) ⟨t, rfl⟩) hd hm ?_
  have e : (f (.inl i)).isSome = (lookI kvs i).isSome := by
    have := hf i
    split at this
    · next v hv => obtain ⟨u, hu⟩ := this; rw [hu, hv]; rfl
    · next hv => rw [this, hv]; rfl
  rw [e]
  exact ⟨.bl (!(lookI kvs i).isSome), H, I.tok _, rfl, q⟩
theorem ix_DI (hK : X.K = K := by rfl) : IxR X (rIxDI K) := by
  subst hK
  intro value slice pins s σ H x y v u Q I rx ry h hs
  obtain ⟨p, i, r, kvs, rfl, rfl, D, e, q⟩ := h
  obtain rfl : v = Value.ref p := rx
  obtain ⟨t, rfl⟩ := ry
  obtain ⟨hd, f, hm, hf⟩ := D.map I
  have := hf i
  rw [e] at this
  obtain ⟨u, hu⟩ := this
  exact tail_any hm.typeIs slot_dict_getitem.lookup (wpAny_getItem_of (knd := mixKind X.prog X.w) (kV_is (k := .inl i) ⟨t, rfl⟩) hm hu ⟨.int r, H, I.tok _, ⟨_, rfl⟩, q⟩) hs
end
/-- the value at a key that is there -/
def dictI (kvs : List (Int × Int)) (i : Int) : Int := (lookI kvs i).getD 0
theorem lookI_at {kvs : List (Int × Int)} {i : Int} (h : i ∈ kvs.map (·.1)) : lookI kvs i = some (dictI kvs i) := by
  have := lookI_mem (kvs := kvs) (i := i)
  rw [decide_eq_true h] at this
  unfold dictI
  cases e : lookI kvs i with
  | none => rw [e] at this; cases this
  | some v => rfl
/-! ### walks over two lists, over numbered items, backwards -/
theorem pi_enumK {X : Cx} {K : PySem.W.Frag} {e : Expr} {ta : TA} {p pos tpos : Pos} {elts : List Expr} {kk : Nat} (hg : Gl X "enumerate") (hm : X.mg "enumerate" = none) (ha : PA X [e] ta) (hK : X.K = K := by rfl) (hs : starEach [e] X.env = [(false, eval e X.env)] := by rfl) :
    PI X (.Tuple elts kk tpos) (.Call (.Name "enumerate" p) [e] [] pos) (iEnum K ta) := hK ▸ pi_enum hg hm ha hs
section
variable {K : PySem.W.Frag} {a b : Addr} {xs ys : List V} {g : TG} {tb : TS} {tt : TT} {te : TE} {D : Ends} {σ : L2.St} {H H1 : Hp} {vs : List Nat} {DD : Addr} {Qd : Hp → Prop}
theorem for_enum (Pv : Nat → L2.St → Hp → Prop) (h0 : Pv 0 σ H) (hq : ∀ i σ H, Pv i σ H → SqL K H a xs)
    (hs : ∀ (i : Nat) (y : V) (T : Addr) (σ : L2.St) (H : Hp), xs[i]? = some y → H T = none → Pv i σ H → g (.ref T) σ (upd H T (.tup [.int (i : Nat), y])) fun σ2 H2 => tb { D with nx := Pv (i + 1), ct := Pv (i + 1), bk := D.nx } σ2 H2) (hd : ∀ σ H, Pv xs.length σ H → D.nx σ H) :
    ∃ W : Nat → Nat → L2.St → Hp → Prop, (∃ m, W 0 m σ H) ∧ ∀ i m σ H, W i m σ H →
      ((Ite K a).stop i H ∧ D.nx σ H) ∨ ((Ite K a).go i H ∧ ∃ N : L2.St → Hp → Prop, (∀ σ' H', N σ' H' → ∃ m', m' < m ∧ W (i + 1) m' σ' H') ∧ ∀ v H', (Ite K a).yld i H v H' → g v σ H' fun σ2 H2 => tb { D with nx := N, ct := N, bk := D.nx } σ2 H2) := by
  refine for_it walk_enum Pv h0 (fun i σ H _ p => hq i σ H p) (fun i x σ H H' hi p y => ?_) hd
  obtain ⟨T, x1, y1, rfl, hT, rfl, h1, h2⟩ := y
  cases h1
  exact hs i y1 T σ H h2 hT p
theorem lc_enum (Pv : Nat → Hp → Prop) (h0 : Pv 0 (upd H1 DD (.lst []))) (hq : ∀ i H, i ≤ xs.length → Pv i H → SqL K H a xs)
    (hs : ∀ (i : Nat) (y : V) (T : Addr) (H : Hp), xs[i]? = some y → H T = none → Pv i H → g (.ref T) (wipe σ vs) (upd H T (.tup [.int (i : Nat), y])) fun σ2 H2 => wipe σ2 vs = wipe σ vs ∧ tt σ2 H2 fun b H3 =>
      if b = true then te σ2 H3 fun y H4 => ∃ acc, H4 DD = some (.lst acc) ∧ acc.length < sizeLine ∧ Pv (i + 1) (upd H4 DD (.lst (acc ++ [y]))) else Pv (i + 1) H3) (hd : ∀ H, Pv xs.length H → Qd H) :
    ∃ W : Nat → Nat → Hp → Prop, (∃ m, W 0 m (upd H1 DD (.lst []))) ∧ ∀ i m H, W i m H →
      ((Ite K a).stop i H ∧ Qd H) ∨ ((Ite K a).go i H ∧ ∃ Nx : Hp → Prop, (∀ H', Nx H' → ∃ m', m' < m ∧ W (i + 1) m' H') ∧ ∀ x H', (Ite K a).yld i H x H' → g x (wipe σ vs) H' fun σ2 H2 => wipe σ2 vs = wipe σ vs ∧ tt σ2 H2 fun b H3 =>
        if b = true then te σ2 H3 fun y H4 => ∃ acc, H4 DD = some (.lst acc) ∧ acc.length < sizeLine ∧ Nx (upd H4 DD (.lst (acc ++ [y]))) else Nx H3) := by
  refine lc_it walk_enum Pv h0 hq (fun i x H H' hi p y => ?_) hd
  obtain ⟨T, x1, y1, rfl, hT, rfl, h1, h2⟩ := y
  cases h1
  exact hs i y1 T H h2 hT p
/-- zip of two lists of any lengths -/
theorem for_zipM (n : Nat) (hn : n = min xs.length ys.length) (Pv : Nat → L2.St → Hp → Prop) (h0 : Pv 0 σ H) (hq : ∀ i σ H, Pv i σ H → SqL K H a xs ∧ SqL K H b ys)
    (hs : ∀ (i : Nat) (x y : V) (T : Addr) (σ : L2.St) (H : Hp), xs[i]? = some x → ys[i]? = some y → H T = none → Pv i σ H → g (.ref T) σ (upd H T (.tup [x, y])) fun σ2 H2 => tb { D with nx := Pv (i + 1), ct := Pv (i + 1), bk := D.nx } σ2 H2) (hd : ∀ σ H, Pv n σ H → D.nx σ H) :
    ∃ W : Nat → Nat → L2.St → Hp → Prop, (∃ m, W 0 m σ H) ∧ ∀ i m σ H, W i m σ H →
      ((Itz K a b).stop i H ∧ D.nx σ H) ∨ ((Itz K a b).go i H ∧ ∃ N : L2.St → Hp → Prop, (∀ σ' H', N σ' H' → ∃ m', m' < m ∧ W (i + 1) m' σ' H') ∧ ∀ v H', (Itz K a b).yld i H v H' → g v σ H' fun σ2 H2 => tb { D with nx := N, ct := N, bk := D.nx } σ2 H2) := by
  refine for_it (walk_zip hn) Pv h0 (fun i σ H _ p => hq i σ H p) (fun i x σ H H' hi p y => ?_) hd
  obtain ⟨T, x1, y1, rfl, hT, rfl, h1, h2⟩ := y
  exact hs i x1 y1 T σ H h1 h2 hT p
theorem lc_zipM (n : Nat) (hn : n = min xs.length ys.length) (Pv : Nat → Hp → Prop) (h0 : Pv 0 (upd H1 DD (.lst []))) (hq : ∀ i H, i ≤ n → Pv i H → SqL K H a xs ∧ SqL K H b ys)
    (hs : ∀ (i : Nat) (x y : V) (T : Addr) (H : Hp), xs[i]? = some x → ys[i]? = some y → H T = none → Pv i H → g (.ref T) (wipe σ vs) (upd H T (.tup [x, y])) fun σ2 H2 => wipe σ2 vs = wipe σ vs ∧ tt σ2 H2 fun b H3 =>
      if b = true then te σ2 H3 fun y H4 => ∃ acc, H4 DD = some (.lst acc) ∧ acc.length < sizeLine ∧ Pv (i + 1) (upd H4 DD (.lst (acc ++ [y]))) else Pv (i + 1) H3) (hd : ∀ H, Pv n H → Qd H) :
    ∃ W : Nat → Nat → Hp → Prop, (∃ m, W 0 m (upd H1 DD (.lst []))) ∧ ∀ i m H, W i m H →
      ((Itz K a b).stop i H ∧ Qd H) ∨ ((Itz K a b).go i H ∧ ∃ Nx : Hp → Prop, (∀ H', Nx H' → ∃ m', m' < m ∧ W (i + 1) m' H') ∧ ∀ x H', (Itz K a b).yld i H x H' → g x (wipe σ vs) H' fun σ2 H2 => wipe σ2 vs = wipe σ vs ∧ tt σ2 H2 fun b H3 =>
        if b = true then te σ2 H3 fun y H4 => ∃ acc, H4 DD = some (.lst acc) ∧ acc.length < sizeLine ∧ Nx (upd H4 DD (.lst (acc ++ [y]))) else Nx H3) := by
  refine lc_it (walk_zip hn) Pv h0 hq (fun i x H H' hi p y => ?_) hd
  obtain ⟨T, x1, y1, rfl, hT, rfl, h1, h2⟩ := y
  exact hs i x1 y1 T H h1 h2 hT p
end
theorem zipM_len {α β : Type} {xs : List α} {ys : List β} : min xs.length ys.length = (xs.zip ys).length := by rw [List.length_zip]
theorem zipM_n {α β : Type} {vs ws : List V} {xs : List α} {ys : List β} (a : vs.length = xs.length) (b : ws.length = ys.length) : min xs.length ys.length = min vs.length ws.length := by rw [a, b]
def rListTK (K : PySem.W.Frag) : List V → Hp → VK → Prop := fun xs H Q => ∃ (p : Addr) (vs : List V), xs = [.ref p] ∧ SqT K H p vs ∧ ∀ l, H l = none → Q (.ref l) (upd H l (.lst vs))
theorem call_listTK {X : Cx} {K : PySem.W.Frag} (hK : X.K = K := by rfl) : CallR X (.type "list") (rListTK K) := by
  subst hK
  intro pins s σ H xs us Q I r h
  obtain ⟨p, vs, rfl, hs, q⟩ := h
  exact call_list_of pins s σ H _ us Q I r ⟨p, _, rfl, Or.inr hs, q⟩
/-- two lists that keep step -/
inductive F2 {α β : Type} (P : α → β → Prop) : List α → List β → Prop
  | nil : F2 P [] []
  | cons {a : α} {b : β} {l : List α} {m : List β} (h : P a b) (t : F2 P l m) : F2 P (a :: l) (b :: m)
theorem F2.get {α β : Type} {P : α → β → Prop} : ∀ {l : List α} {m : List β}, F2 P l m → ∀ (j : Nat), j < l.length → ∃ a b, l[j]? = some a ∧ m[j]? = some b ∧ P a b
  | _, _, .nil, j, h => absurd h (Nat.not_lt_zero _)
  | _, _, .cons h t, 0, _ => ⟨_, _, rfl, rfl, h⟩
  | _, _, .cons h t, j + 1, hj => t.get j (Nat.lt_of_succ_lt_succ hj)
theorem F2.at {α β : Type} [Inhabited α] [Inhabited β] {P : α → β → Prop} {l : List α} {m : List β} (h : F2 P l m) (k : Int) (h0 : 0 ≤ k) (h1 : k < l.length) : P (itD l k) (itD m k) := by
  obtain ⟨j, rfl⟩ : ∃ j : Nat, k = (j : Int) := ⟨k.toNat, by omega⟩
  obtain ⟨a, b, ha, hb, p⟩ := h.get j (by omega)
  have e1 : itD l (j : Int) = a := by unfold itD; rw [atI_nat ha]; rfl
  have e2 : itD m (j : Int) = b := by unfold itD; rw [atI_nat hb]; rfl
  rw [e1, e2]
  exact p
theorem SqT.cast {K : PySem.W.Frag} {H : Hp} {a : Addr} {xs ys : List V} (h : SqT K H a xs) (e : xs = ys) : SqT K H a ys := e ▸ h
/-- enumerate(xs) -/
def enumL {α : Type} (xs : List α) : List (Int × α) := (rng 0 xs.length).zip xs
theorem enumL_len {α : Type} (xs : List α) : (enumL xs).length = xs.length := by
  unfold enumL
  rw [List.length_zip, rng_len, Nat.min_self]
theorem enumL_get {α : Type} {xs : List α} {i : Nat} {x : α} (h : xs[i]? = some x) : (enumL xs)[i]? = some ((i : Int), x) := by
  have hl : i < xs.length := (List.getElem?_eq_some_iff.mp h).1
  unfold enumL
  rw [List.getElem?_zip_eq_some]
  refine ⟨?_, h⟩
  have := rng_get (lo := 0) hl
  rw [this]
  congr 1
  omega
end Vx
namespace Vx
open PySem PySem.Spec PyProof.Rows L2
theorem wipe_get : ∀ (σ : L2.St) (vs : List Nat) (j : Nat), (wipe σ vs)[j]? = if j ∈ vs ∧ j < σ.length then some none else σ[j]?
  | σ, [], j => by simp [wipe]
  | σ, v :: vs, j => by
    unfold wipe
    by_cases e : v = j
    · subst e
      by_cases h : v < σ.length
      · rw [List.getElem?_set_self (by rw [wipe_length]; exact h), if_pos ⟨List.mem_cons_self, h⟩]
      · rw [if_neg (fun z => h z.2), List.getElem?_eq_none (by rw [List.length_set, wipe_length]; omega), List.getElem?_eq_none (by omega)]
    · rw [List.getElem?_set_ne e, wipe_get σ vs j]
      have : (j ∈ v :: vs ∧ j < σ.length) ↔ (j ∈ vs ∧ j < σ.length) := by
        constructor
        · rintro ⟨h1, h2⟩
          rcases List.mem_cons.mp h1 with rfl | h1
          · exact absurd rfl e
          · exact ⟨h1, h2⟩
        · rintro ⟨h1, h2⟩
          exact ⟨List.mem_cons_of_mem _ h1, h2⟩
      by_cases q : j ∈ vs ∧ j < σ.length
      · rw [if_pos q, if_pos (this.mpr q)]
      · rw [if_neg q, if_neg (fun z => q (this.mp z))]
theorem wipe_wipe {σ : L2.St} {vs : List Nat} : wipe (wipe σ vs) vs = wipe σ vs := by
  apply List.ext_getElem?
  intro j
  rw [wipe_get (wipe σ vs), wipe_length]
  by_cases q : j ∈ vs ∧ j < σ.length
  · rw [if_pos q, wipe_get, if_pos q]
  · rw [if_neg q]
theorem wipe_set {σ : L2.St} {vs : List Nat} {v : Nat} {x : Option V} (h : v ∈ vs) : wipe (σ.set v x) vs = wipe σ vs := by
  apply List.ext_getElem?
  intro j
  rw [wipe_get, wipe_get, List.length_set]
  by_cases q : j ∈ vs ∧ j < σ.length
  · rw [if_pos q, if_pos q]
  · rw [if_neg q, if_neg q]
    by_cases e : v = j
    · subst e
      have hl : ¬ v < σ.length := fun z => q ⟨h, z⟩
      rw [List.getElem?_eq_none (by rw [List.length_set]; omega), List.getElem?_eq_none (by omega)]
    · rw [List.getElem?_set_ne e]
/-- a comprehension over a step range -/
theorem lc_rangeC {lo c : Int} {n : Nat} {g : TG} {tt : TT} {te : TE} {vs : List Nat} {σ : L2.St} {H1 : Hp} {D : Addr} {Qd : Hp → Prop} (Pv : Nat → Hp → Prop) (h0 : Pv 0 (upd H1 D (.lst [])))
    (hs : ∀ i H, i < n → Pv i H → g (.int (lo + (i : Nat) * c)) (wipe σ vs) H fun σ2 H2 => wipe σ2 vs = wipe σ vs ∧ tt σ2 H2 fun b H3 =>
      if b = true then te σ2 H3 fun y H4 => ∃ acc, H4 D = some (.lst acc) ∧ acc.length < sizeLine ∧ Pv (i + 1) (upd H4 D (.lst (acc ++ [y]))) else Pv (i + 1) H3) (hd : ∀ H, Pv n H → Qd H) :
    ∃ W : Nat → Nat → Hp → Prop, (∃ m, W 0 m (upd H1 D (.lst []))) ∧ ∀ i m H, W i m H →
      ((Itc lo c n).stop i H ∧ Qd H) ∨ ((Itc lo c n).go i H ∧ ∃ Nx : Hp → Prop, (∀ H', Nx H' → ∃ m', m' < m ∧ W (i + 1) m' H') ∧ ∀ x H', (Itc lo c n).yld i H x H' → g x (wipe σ vs) H' fun σ2 H2 => wipe σ2 vs = wipe σ vs ∧ tt σ2 H2 fun b H3 =>
        if b = true then te σ2 H3 fun y H4 => ∃ acc, H4 D = some (.lst acc) ∧ acc.length < sizeLine ∧ Nx (upd H4 D (.lst (acc ++ [y]))) else Nx H3) := by
  refine ⟨fun i m H => m = n - i ∧ i ≤ n ∧ Pv i H, ⟨n, by simp, Nat.zero_le _, h0⟩, ?_⟩
  rintro i m H ⟨rfl, hi, p⟩
  rcases Nat.lt_or_ge i n with hlt | hge
  · refine .inr ⟨hlt, Pv (i + 1), fun H' p' => ⟨n - (i + 1), by omega, rfl, hlt, p'⟩, fun x H' y => ?_⟩
    obtain ⟨e, y⟩ := y
    subst e y
    exact hs i _ hlt p
  · cases Nat.le_antisymm hi hge
    exact .inl ⟨Nat.le_refl _, hd H p⟩

/-! ### reversed(list of ints), any(list of ints) -/
theorem pi_revK {X : Cx} {K : PySem.W.Frag} {tg : Expr} {e : Expr} {ta : TA} {p pos : Pos} (hg : Gl X "reversed") (hm : X.mg "reversed" = none) (ha : PA X [e] ta) (hK : X.K = K := by rfl) (hs : starEach [e] X.env = [(false, eval e X.env)] := by rfl) :
    PI X tg (.Call (.Name "reversed" p) [e] [] pos) (iRev K ta) := hK ▸ pi_reversed hg hm ha hs
theorem for_revI {K : PySem.W.Frag} {a : Addr} {xs : List Int} {g : TG} {tb : TS} {D : Ends} {σ : L2.St} {H : Hp} (Pv : Nat → L2.St → Hp → Prop) (h0 : Pv 0 σ H) (hl : ∀ i σ H, i ≤ (xs.reverse.map V.int).length → Pv i σ H → SqL K H a (xs.map V.int))
    (hs : ∀ i x σ H, (xs.reverse.map V.int)[i]? = some x → Pv i σ H → g x σ H fun σ2 H2 => tb { D with nx := Pv (i + 1), ct := Pv (i + 1), bk := D.nx } σ2 H2) (hd : ∀ σ H, Pv (xs.reverse.map V.int).length σ H → D.nx σ H) :
    ∃ W : Nat → Nat → L2.St → Hp → Prop, (∃ m, W 0 m σ H) ∧ ∀ i m σ H, W i m σ H →
      ((Itv K a (xs.map V.int).length).stop i H ∧ D.nx σ H) ∨ ((Itv K a (xs.map V.int).length).go i H ∧ ∃ N : L2.St → Hp → Prop, (∀ σ' H', N σ' H' → ∃ m', m' < m ∧ W (i + 1) m' σ' H') ∧ ∀ x H', (Itv K a (xs.map V.int).length).yld i H x H' → g x σ H' fun σ2 H2 => tb { D with nx := N, ct := N, bk := D.nx } σ2 H2) := by
  have en : (xs.reverse.map V.int).length = (xs.map V.int).length := by rw [List.length_map, List.length_map, List.length_reverse]
  rw [en] at hl hd
  refine for_it walk_rev Pv h0 hl (fun i x σ H H' hi p y => ?_) hd
  obtain ⟨rfl, hx⟩ := y
  refine hs i x σ _ ?_ p
  rw [List.map_reverse, List.getElem?_reverse hi]
  exact hx
theorem ints_get : ∀ {ns : List Int} {us : List Value} {i : Nat} {v : Value}, IntsAre us ns → us[i]? = some v → ∃ t, v = .int (ns.getD i 0) t := by
  intro ns us i v h
  induction h generalizing i with
  | nil => intro z; simp at z
  | cons n t _ ih =>
    intro z
    cases i with
    | zero => simp at z; exact ⟨t, by rw [← z]; rfl⟩
    | succ i => exact ih (by simpa using z)
theorem any_rangeI : ∀ ns : List Int, (List.range ns.length).any (fun i => ns.getD i 0 != 0) = ns.any (fun x => x != 0)
  | [] => rfl
  | b :: bs => by
    rw [List.length_cons, List.range_succ_eq_map, List.any_cons, List.any_map, List.any_cons, ← any_rangeI bs]
    all_goals rfl
theorem ints_len : ∀ {ns : List Int} {us : List Value}, IntsAre us ns → us.length = ns.length := by
  intro ns us h
  induction h with
  | nil => rfl
  | cons _ _ _ ih => simp [ih]
def rAnyI (K : PySem.W.Frag) : List V → Hp → VK → Prop := fun vs H Q => ∃ (a : Addr) (ns : List Int), vs = [V.ref a] ∧ SqL K H a (ns.map V.int) ∧ Q (.bl (ns.any fun x => x != 0)) H
theorem cr_anyI {X : Cx} (hc : X.calm = true) : CallR X (.builtin "any") (rAnyI X.K) := by
  intro pins s σ H vs us Q I r h
  obtain ⟨a, ns, rfl, hs, q⟩ := h
  obtain ⟨its, rv, hl, _⟩ := I.list hs
  rw [Vals.ref1 r]
  have hb := rv.ints
  refine call_any_walk (iter_any hl.isList fun s₂ e2 st hne => ?_)
  subst e2
  have ht : TruthOf X.prog X.w X.A.in1 (fun i v => its.toArray[i]? = some v) (fun i => ns.getD i 0 != 0) := fun i v s Q E hv hq => by
    obtain ⟨t, rfl⟩ := ints_get hb (by simpa using hv)
    exact PyProof.Rows.truthy_int hq
  refine ⟨_, _, _, _, _, _, _, rfl, Walks.list (A := X.A.in1) (I.ok.hd hc) _ a hne its.toArray, st, ht, fun h' tk hk => ?_⟩
  refine ⟨.bl _, H, I.kept fun b o eo => hk b o (fun hmem => ?_) (Heap.get?_push_of_some _ eo), ?_, q⟩
  · rcases List.mem_cons.mp hmem with e1 | hmem
    · exact absurd (e1 ▸ Heap.lt_size eo) (Nat.lt_irrefl _)
    · cases hmem
  · show Value.bool _ = Value.bool _
    rw [← any_rangeI, List.size_toArray, ints_len hb]
theorem cr_anyIK {X : Cx} {K : PySem.W.Frag} (hc : X.calm = true) (hK : X.K = K := by rfl) : CallR X (.builtin "any") (rAnyI K) := hK ▸ cr_anyI hc
/-- an item of a list of data stored anew -/
theorem RpAll.setM {α : Type} {f : α → PyData} {G : Hp} {vs : List V} {xs : List α} {k : Int} {v : V} {y : α} (d : RpAll G vs (xs.map f)) (r : Rp G v (f y)) : RpAll G (vs.set ((ixN vs.length k).getD 0) v) ((setL xs k y).map f) := by
  have e : vs.length = xs.length := by rw [d.len, List.length_map]
  unfold setL
  rw [List.map_set, e]
  exact RpAll.set r _ d
end Vx
/-! # data of any shape: None beside data, tuples of several shapes -/
namespace Vx
open PySem PySem.Spec PyProof.Rows L2
def encD (d : PyData) : PyData := d
def encN (_ : Unit) : PyData := .none
def encT1 {α : Type} (f : α → PyData) (x : α) : PyData := .tuple [f x]
instance instInhD : Inhabited PyData := ⟨.none⟩
/-- a known shape: what is laid, what is read back, whether the data has the shape -/
structure Cst (α : Type) where
  enc : α → PyData
  dec : PyData → α
  ok : PyData → Bool
  h : ∀ d, ok d = true → enc (dec d) = d
  oke : ∀ x, ok (enc x) = true
  de : ∀ x, dec (enc x) = x
def cI : Cst Int := ⟨PyData.int, fun d => match d with | .int i => i | _ => 0, fun d => match d with | .int _ => true | _ => false, fun d h => (by cases d <;> first | rfl | (cases h)), fun _ => rfl, fun _ => rfl⟩
def cB : Cst Bool := ⟨PyData.bool, fun d => match d with | .bool i => i | _ => false, fun d => match d with | .bool _ => true | _ => false, fun d h => (by cases d <;> first | rfl | (cases h)), fun _ => rfl, fun _ => rfl⟩
def cS : Cst Str := ⟨PyData.str, fun d => match d with | .str i => i | _ => "", fun d => match d with | .str _ => true | _ => false, fun d h => (by cases d <;> first | rfl | (cases h)), fun _ => rfl, fun _ => rfl⟩
def cN : Cst Unit := ⟨encN, fun _ => (), fun d => match d with | .none => true | _ => false, fun d h => (by cases d <;> first | rfl | (cases h)), fun _ => rfl, fun _ => rfl⟩
def cD : Cst PyData := ⟨encD, fun d => d, fun _ => true, fun _ _ => rfl, fun _ => rfl, fun _ => rfl⟩
theorem map_dec {α : Type} (c : Cst α) : ∀ xs : List PyData, xs.all c.ok = true → (xs.map c.dec).map c.enc = xs
  | [], _ => rfl
  | x :: xs, h => by
    rw [List.all_cons, Bool.and_eq_true] at h
    rw [List.map_cons, List.map_cons, c.h x h.1, map_dec c xs h.2]
def cL {α : Type} (c : Cst α) : Cst (List α) where
  enc := encL c.enc
  dec := fun d => match d with | .list xs => xs.map c.dec | _ => []
  ok := fun d => match d with | .list xs => xs.all c.ok | _ => false
  h := fun d h => by
    cases d with
    | list xs => exact congrArg PyData.list (map_dec c xs h)
    | _ => cases h
  oke := fun x => by
    show (x.map c.enc).all c.ok = true
    rw [List.all_map, List.all_eq_true]
    exact fun a _ => c.oke a
  de := fun x => by
    show (x.map c.enc).map c.dec = x
    rw [List.map_map]
    have e : c.dec ∘ c.enc = id := funext c.de
    rw [e, List.map_id]
def cT1 {α : Type} (a : Cst α) : Cst α where
  enc := encT1 a.enc
  dec := fun d => match d with | .tuple [x] => a.dec x | _ => a.dec .none
  ok := fun d => match d with | .tuple [x] => a.ok x | _ => false
  h := fun d h => by
    split at h
    · next x => exact congrArg (fun z => PyData.tuple [z]) (a.h x h)
    · cases h
  oke := fun x => a.oke x
  de := fun x => a.de x
def cT2 {α β : Type} (a : Cst α) (b : Cst β) : Cst (α × β) where
  enc := encT2 a.enc b.enc
  dec := fun d => match d with | .tuple [x, y] => (a.dec x, b.dec y) | _ => (a.dec .none, b.dec .none)
  ok := fun d => match d with | .tuple [x, y] => a.ok x && b.ok y | _ => false
  h := fun d h => by
    split at h
    · next x y =>
      rw [Bool.and_eq_true] at h
      show PyData.tuple [a.enc (a.dec x), b.enc (b.dec y)] = _
      rw [a.h x h.1, b.h y h.2]
    · cases h
  oke := fun x => by show (a.ok (a.enc x.1) && b.ok (b.enc x.2)) = true; rw [a.oke, b.oke]; rfl
  de := fun x => by show (a.dec (a.enc x.1), b.dec (b.enc x.2)) = x; rw [a.de, b.de]
def cT3 {α β γ : Type} (a : Cst α) (b : Cst β) (c : Cst γ) : Cst (α × β × γ) where
  enc := encT3 a.enc b.enc c.enc
  dec := fun d => match d with | .tuple [x, y, z] => (a.dec x, b.dec y, c.dec z) | _ => (a.dec .none, b.dec .none, c.dec .none)
  ok := fun d => match d with | .tuple [x, y, z] => a.ok x && b.ok y && c.ok z | _ => false
  h := fun d h => by
    split at h
    · next x y z =>
      simp only [Bool.and_eq_true] at h
      show PyData.tuple [a.enc (a.dec x), b.enc (b.dec y), c.enc (c.dec z)] = _
      rw [a.h x h.1.1, b.h y h.1.2, c.h z h.2]
    · cases h
  oke := fun x => by show (a.ok (a.enc x.1) && b.ok (b.enc x.2.1) && c.ok (c.enc x.2.2)) = true; rw [a.oke, b.oke, c.oke]; rfl
  de := fun x => by show (a.dec (a.enc x.1), b.dec (b.enc x.2.1), c.dec (c.enc x.2.2)) = x; rw [a.de, b.de, c.de]
def cT4 {α β γ δ : Type} (a : Cst α) (b : Cst β) (c : Cst γ) (e : Cst δ) : Cst (α × β × γ × δ) where
  enc := encT4 a.enc b.enc c.enc e.enc
  dec := fun d => match d with | .tuple [x, y, z, w] => (a.dec x, b.dec y, c.dec z, e.dec w) | _ => (a.dec .none, b.dec .none, c.dec .none, e.dec .none)
  ok := fun d => match d with | .tuple [x, y, z, w] => a.ok x && b.ok y && c.ok z && e.ok w | _ => false
  h := fun d h => by
    split at h
    · next x y z w =>
      simp only [Bool.and_eq_true] at h
      show PyData.tuple [a.enc (a.dec x), b.enc (b.dec y), c.enc (c.dec z), e.enc (e.dec w)] = _
      rw [a.h x h.1.1.1, b.h y h.1.1.2, c.h z h.1.2, e.h w h.2]
    · cases h
  oke := fun x => by show (a.ok (a.enc x.1) && b.ok (b.enc x.2.1) && c.ok (c.enc x.2.2.1) && e.ok (e.enc x.2.2.2)) = true; rw [a.oke, b.oke, c.oke, e.oke]; rfl
  de := fun x => by show (a.dec (a.enc x.1), b.dec (b.enc x.2.1), c.dec (c.enc x.2.2.1), e.dec (e.enc x.2.2.2)) = x; rw [a.de, b.de, c.de, e.de]
section
variable {H : Hp} {v : V} {d : PyData}
theorem rp_dcast {α : Type} (c : Cst α) (g : c.ok d = true) (r : Rp H v d) : Rp H v (c.enc (c.dec d)) := by rw [c.h d g]; exact r
def dNone : PyData → Bool
  | .none => true
  | _ => false
def dSeq : PyData → Bool
  | .list _ => true
  | .tuple _ => true
  | _ => false
def dTup : PyData → Bool
  | .tuple _ => true
  | _ => false
def dLst : PyData → Bool
  | .list _ => true
  | _ => false
def dInt : PyData → Bool
  | .int _ => true
  | .bool _ => true
  | _ => false
def dBool : PyData → Bool
  | .bool _ => true
  | _ => false
def dGet : PyData → Nat → PyData
  | .tuple xs, k => xs.getD k .none
  | .list xs, k => xs.getD k .none
  | _, _ => .none
def dHasT : PyData → Nat → Bool
  | .tuple xs, k => decide (k < xs.length)
  | _, _ => false
theorem rp_ref (g : dSeq d = true) (r : Rp H v d) : ∃ a, v = .ref a := by
  cases r <;> first | exact ⟨_, rfl⟩ | cases g
theorem rp_dget {k : Nat} (g : dHasT d k = true) (r : Rp H v d) : ∃ a vs u, v = .ref a ∧ H a = some (.tup vs) ∧ atI vs (k : Int) = some u ∧ Rp H u (dGet d k) := by
  cases r with
  | tup h rs =>
    rename_i ds
    have hk : k < ds.length := of_decide_eq_true g
    obtain ⟨u, h1, h2⟩ := RpAll.at' (i := k) (d := ds[k]) rs (List.getElem?_eq_getElem hk)
    refine ⟨_, _, u, rfl, h, ?_, ?_⟩
    · exact atI_nat h1
    · show Rp H u (ds.getD k .none)
      rw [List.getD_eq_getElem?_getD, List.getElem?_eq_getElem hk]
      exact h2
  | _ => cases g
theorem rp_non {x : Unit} (r : Rp H v (encN x)) : v = .non := by unfold encN at r; cases r; rfl
theorem rp_tup1 {α : Type} {f : α → PyData} {x : α} (r : Rp H v (encT1 f x)) : ∃ a v1, v = .ref a ∧ H a = some (.tup [v1]) ∧ Rp H v1 (f x) := by
  unfold encT1 at r
  cases r with
  | tup h1 h2 =>
    cases h2 with
    | cons r1 t => cases t; exact ⟨_, _, rfl, h1, r1⟩
theorem rp_mk1 {α : Type} {f : α → PyData} {a : Addr} {v1 : V} {x : α} (h1 : H a = some (.tup [v1])) (r1 : Rp H v1 (f x)) : Rp H (.ref a) (encT1 f x) := .tup h1 (.cons r1 .nil)
theorem rp_none_iff (r : Rp H v d) : decide (v = V.non) = dNone d := by
  cases r <;> simp [dNone]
end
section
variable {X : Cx}
def rIsND : R2 := fun x y H Q => ∃ d, y = .non ∧ Rp H x d ∧ Q (.bl (dNone d)) H
def rNotND : R2 := fun x y H Q => ∃ d, y = .non ∧ Rp H x d ∧ Q (.bl (!dNone d)) H
theorem op_isND : OpR X (compareOp .Is) rIsND := by
  intro pins s σ H x y v u Q I rx ry h
  obtain ⟨d, e, r, q⟩ := h
  exact op_isN pins s σ H x y v u Q I rx ry ⟨e, by rw [rp_none_iff r]; exact q⟩
theorem op_notND : OpR X (compareOp .IsNot) rNotND := by
  intro pins s σ H x y v u Q I rx ry h
  obtain ⟨d, e, r, q⟩ := h
  exact op_notN pins s σ H x y v u Q I rx ry ⟨e, by rw [rp_none_iff r]; exact q⟩
def rEqD : R2 := fun x y H Q => ∃ a b : PyData, Rp H x a ∧ Rp H y b ∧ (SeqAt.shaped a = true ∧ SeqAt.shaped b = true) ∧ Q (.bl (PyData.eqv a b)) H
def rNeD : R2 := fun x y H Q => ∃ a b : PyData, Rp H x a ∧ Rp H y b ∧ (SeqAt.shaped a = true ∧ SeqAt.shaped b = true) ∧ Q (.bl (!PyData.eqv a b)) H
theorem op_eqDD (hu : X.A.units + 64 < cLine) : OpR X (compareOp .Eq) rEqD := by
  intro pins s σ H x y v u Q I rx ry h
  obtain ⟨a, b, h1, h2, ⟨s1, s2⟩, q⟩ := h
  exact op_eqD hu pins s σ H _ _ v u Q I rx ry ⟨_, _, h1.dp, h2.dp, s1, s2, q⟩
theorem op_neDD (hu : X.A.units + 64 < cLine) : OpR X (compareOp .NotEq) rNeD := by
  intro pins s σ H x y v u Q I rx ry h
  obtain ⟨a, b, h1, h2, ⟨s1, s2⟩, q⟩ := h
  exact op_neD hu pins s σ H _ _ v u Q I rx ry ⟨_, _, h1.dp, h2.dp, s1, s2, q⟩
def dTy : PyData → String
  | .none => "NoneType"
  | .bool _ => "bool"
  | .int _ => "int"
  | .str _ => "str"
  | .list _ => "list"
  | .tuple _ => "tuple"
  | .dict _ => "dict"
theorem Rp.tyX {K : PySem.W.Frag} {H : Hp} {v : V} {d : PyData} (r : Rp H v d) : TyX K H v (.type (dTy d)) := by
  cases r with
  | non => exact .base .non
  | bl b => exact .base (.bl b)
  | int i => exact .base (.int i)
  | str x => exact .base (.str x)
  | lst h _ => exact .base (.lst h)
  | tup h _ => exact .base (.tup h)
def rIsiD (T : String) (f : PyData → Bool) : List V → Hp → VK → Prop := fun xs H Q => ∃ (x : V) (d : PyData), xs = [x, .ty T] ∧ Rp H x d ∧ Q (.bl (f d)) H
theorem call_isiD {T : String} {f : PyData → Bool} (hT : ∀ d, kitB (dTy d) T = some (f d)) : CallR X (.builtin "isinstance") (rIsiD T f) := by
  intro pins s σ H xs us Q I r h
  obtain ⟨x, d, rfl, rx, q⟩ := h
  exact call_isi pins s σ H _ us Q I r ⟨x, .ty T, _, _, _, rfl, .ty T, rx.tyX, kit_ty (hT d), q⟩
theorem kit_dTup (d : PyData) : kitB (dTy d) "tuple" = some (dTup d) := by
  cases d with
  | none => exact (by decide +kernel : kitB "NoneType" "tuple" = some false)
  | bool _ => exact (by decide +kernel : kitB "bool" "tuple" = some false)
  | int _ => exact (by decide +kernel : kitB "int" "tuple" = some false)
  | str _ => exact (by decide +kernel : kitB "str" "tuple" = some false)
  | list _ => exact (by decide +kernel : kitB "list" "tuple" = some false)
  | tuple _ => exact (by decide +kernel : kitB "tuple" "tuple" = some true)
  | dict _ => exact (by decide +kernel : kitB "dict" "tuple" = some false)
theorem kit_dLst (d : PyData) : kitB (dTy d) "list" = some (dLst d) := by
  cases d with
  | none => exact (by decide +kernel : kitB "NoneType" "list" = some false)
  | bool _ => exact (by decide +kernel : kitB "bool" "list" = some false)
  | int _ => exact (by decide +kernel : kitB "int" "list" = some false)
  | str _ => exact (by decide +kernel : kitB "str" "list" = some false)
  | list _ => exact (by decide +kernel : kitB "list" "list" = some true)
  | tuple _ => exact (by decide +kernel : kitB "tuple" "list" = some false)
  | dict _ => exact (by decide +kernel : kitB "dict" "list" = some false)
theorem kit_dInt (d : PyData) : kitB (dTy d) "int" = some (dInt d) := by
  cases d with
  | none => exact (by decide +kernel : kitB "NoneType" "int" = some false)
  | bool _ => exact (by decide +kernel : kitB "bool" "int" = some true)
  | int _ => exact (by decide +kernel : kitB "int" "int" = some true)
  | str _ => exact (by decide +kernel : kitB "str" "int" = some false)
  | list _ => exact (by decide +kernel : kitB "list" "int" = some false)
  | tuple _ => exact (by decide +kernel : kitB "tuple" "int" = some false)
  | dict _ => exact (by decide +kernel : kitB "dict" "int" = some false)
theorem kit_dBool (d : PyData) : kitB (dTy d) "bool" = some (dBool d) := by
  cases d with
  | none => exact (by decide +kernel : kitB "NoneType" "bool" = some false)
  | bool _ => exact (by decide +kernel : kitB "bool" "bool" = some true)
  | int _ => exact (by decide +kernel : kitB "int" "bool" = some false)
  | str _ => exact (by decide +kernel : kitB "str" "bool" = some false)
  | list _ => exact (by decide +kernel : kitB "list" "bool" = some false)
  | tuple _ => exact (by decide +kernel : kitB "tuple" "bool" = some false)
  | dict _ => exact (by decide +kernel : kitB "dict" "bool" = some false)
end
/-! ### written dicts of numbers with text keys -/
inductive ES (P : Params) : List (Str × Int) → List DictEntry → Prop
  | nil : ES P [] []
  | cons {h k v} {t u : Tok} {r : List (Str × Int)} {es : List DictEntry} (e : h = PyData.keyHash P k) (x : ES P r es) : ES P ((k, v) :: r) (⟨h, .str k t, .int v u⟩ :: es)
def lookS : List (Str × Int) → Str → Option Int
  | [], _ => none
  | (k, v) :: r, i => if k = i then some v else lookS r i
def KDS (K : PySem.W.Frag) (w : World) (a : Addr) (kvs : List (Str × Int)) : Prop :=
  ∃ es n, K.lookup a = some ⟨.type "dict", none, .dict es n, #[]⟩ ∧ ES w.params kvs es.toList
theorem ES.lit {P : Params} : ∀ {kvs : List (Str × Int)} {es : List DictEntry}, ES P kvs es → PySem.W.KeysLit P es
  | _, _, .nil => trivial
  | _, _, .cons e x => ⟨⟨_, _, rfl, e⟩, ES.lit x⟩
theorem ES.find {P : Params} {i : Str} {v : Int} : ∀ {kvs : List (Str × Int)} {es : List DictEntry}, ES P kvs es → lookS kvs i = some v → ∃ e u, es.find? (fun e => e.key.isStr i) = some e ∧ e.val = .int v u
  | _, _, .nil, h => by cases h
  | _, _, .cons (k := k) (u := u) e x, h => by
    unfold lookS at h
    by_cases q : k = i
    · rw [if_pos q] at h
      subst q
      cases h
      refine ⟨_, u, List.find?_cons_of_pos ?_, rfl⟩
      simp [Value.isStr]
    · rw [if_neg q] at h
      obtain ⟨e', u', h1, h2⟩ := ES.find x h
      refine ⟨e', u', ?_, h2⟩
      rw [List.find?_cons_of_neg]
      · exact h1
      · simp [Value.isStr, q]
theorem KDS.at {K : PySem.W.Frag} {w : World} {a : Addr} {kvs : List (Str × Int)} {z : Str} {v : Int} (D : KDS K w a kvs) (h : lookS kvs z = some v) : KDct K w a z (.int v) := by
  obtain ⟨es, n, hl, x⟩ := D
  obtain ⟨e, u, h1, h2⟩ := x.find h
  refine ⟨es, n, .int v u, hl, x.lit, ?_, ⟨u, rfl⟩⟩
  unfold PySem.W.nsIn
  rw [hl]
  show (match es.toList.find? (fun e => e.key.isStr z) with
      | some e => some (some e.val)
      | none => if es.toList.any (·.refKey) then none else some none) = _
  rw [h1]
  show some (some e.val) = _
  rw [h2]
def rIxDS (K : PySem.W.Frag) (w : World) : R2 := fun x y H Q => ∃ (p : Addr) (z : Str) (kvs : List (Str × Int)) (v : Int), x = .ref p ∧ y = .str z ∧ KDS K w p kvs ∧ lookS kvs z = some v ∧ Q (.int v) H
theorem ix_DS {X : Cx} {K : PySem.W.Frag} {w : World} (hK : X.K = K := by rfl) (hw : X.w = w := by rfl) : IxR X (rIxDS K w) := by
  subst hK hw
  intro value slice pins s σ H x y v u Q I rx ry h hs
  obtain ⟨p, z, kvs, r, e1, e2, D, e, q⟩ := h
  exact ix_kdict value slice pins s σ H x y v u Q I rx ry ⟨p, z, .int r, e1, e2, D.at e, q⟩ hs
def dictS (kvs : List (Str × Int)) (i : Str) : Int := (lookS kvs i).getD 0
def hasS (kvs : List (Str × Int)) (i : Str) : Bool := (lookS kvs i).isSome
theorem lookS_at {kvs : List (Str × Int)} {i : Str} (h : hasS kvs i = true) : lookS kvs i = some (dictS kvs i) := by
  unfold hasS at h
  unfold dictS
  cases e : lookS kvs i with
  | none => rw [e] at h; cases h
  | some v => rfl
/-! ### for the mathematics -/
theorem eqv_enc {α : Type} [DecidableEq α] {n : Nat} {f : α → PyData} (ok : EncOk n f) (x y : α) : PyData.eqv (f x) (f y) = decide (x = y) := ok.eqv x y
end Vx
namespace Vx
open PySem PySem.Spec PyProof.Rows L2
theorem sm_str {x : Str} (h : (reprText x).length ≤ 20) : Sm 1 0 (.str x) := ⟨by simp only [smallD, decide_eq_true_eq]; exact h, by simp [nodes], by simp [PyData.depth]⟩
theorem sm_none : Sm 1 0 (encN ()) := sm_non
theorem sm_T1 {α : Type} {f : α → PyData} {n k : Nat} {p : α} (h1 : Sm n k (f p)) : Sm (1 + n) (k + 1) (encT1 f p) := by
  obtain ⟨a1, a2, a3⟩ := h1
  refine ⟨by simp [encT1, smallD, smallAll, a1], ?_, ?_⟩
  · simp only [encT1, nodes, nodesAll]
    omega
  · simp only [encT1, PyData.depth, PyData.depthAll]
    omega
theorem sm_T4 {α β γ δ : Type} {f : α → PyData} {g : β → PyData} {h : γ → PyData} {e : δ → PyData} {n k m j l i o q : Nat} {p : α × β × γ × δ} (h1 : Sm n k (f p.1)) (h2 : Sm m j (g p.2.1)) (h3 : Sm l i (h p.2.2.1)) (h4 : Sm o q (e p.2.2.2)) : Sm (1 + n + m + l + o) (max k (max j (max i q)) + 1) (encT4 f g h e p) := by
  obtain ⟨a1, a2, a3⟩ := h1
  obtain ⟨b1, b2, b3⟩ := h2
  obtain ⟨c1, c2, c3⟩ := h3
  obtain ⟨d1, d2, d3⟩ := h4
  refine ⟨by simp [encT4, smallD, smallAll, a1, b1, c1, d1], ?_, ?_⟩
  · simp only [encT4, nodes, nodesAll]
    omega
  · simp only [encT4, PyData.depth, PyData.depthAll]
    omega
theorem Sm.enc {n k : Nat} {d : PyData} (h : Sm n k d) : Sm n k (encD d) := h
end Vx
namespace Vx
theorem len8 {α : Type} {l : List α} (h : l.length = 8) : ∃ x0 x1 x2 x3 x4 x5 x6 x7, l = [x0, x1, x2, x3, x4, x5, x6, x7] := by
  obtain ⟨x0, r, rfl, h2⟩ := len_s h
  obtain ⟨x1, x2, x3, x4, x5, x6, x7, rfl⟩ := len7 h2
  exact ⟨x0, x1, x2, x3, x4, x5, x6, x7, rfl⟩
theorem len9 {α : Type} {l : List α} (h : l.length = 9) : ∃ x0 x1 x2 x3 x4 x5 x6 x7 x8, l = [x0, x1, x2, x3, x4, x5, x6, x7, x8] := by
  obtain ⟨x0, r, rfl, h2⟩ := len_s h
  obtain ⟨x1, x2, x3, x4, x5, x6, x7, x8, rfl⟩ := len8 h2
  exact ⟨x0, x1, x2, x3, x4, x5, x6, x7, x8, rfl⟩
theorem len10 {α : Type} {l : List α} (h : l.length = 10) : ∃ x0 x1 x2 x3 x4 x5 x6 x7 x8 x9, l = [x0, x1, x2, x3, x4, x5, x6, x7, x8, x9] := by
  obtain ⟨x0, r, rfl, h2⟩ := len_s h
  obtain ⟨x1, x2, x3, x4, x5, x6, x7, x8, x9, rfl⟩ := len9 h2
  exact ⟨x0, x1, x2, x3, x4, x5, x6, x7, x8, x9, rfl⟩
theorem len11 {α : Type} {l : List α} (h : l.length = 11) : ∃ x0 x1 x2 x3 x4 x5 x6 x7 x8 x9 x10, l = [x0, x1, x2, x3, x4, x5, x6, x7, x8, x9, x10] := by
  obtain ⟨x0, r, rfl, h2⟩ := len_s h
  obtain ⟨x1, x2, x3, x4, x5, x6, x7, x8, x9, x10, rfl⟩ := len10 h2
  exact ⟨x0, x1, x2, x3, x4, x5, x6, x7, x8, x9, x10, rfl⟩
theorem len12 {α : Type} {l : List α} (h : l.length = 12) : ∃ x0 x1 x2 x3 x4 x5 x6 x7 x8 x9 x10 x11, l = [x0, x1, x2, x3, x4, x5, x6, x7, x8, x9, x10, x11] := by
  obtain ⟨x0, r, rfl, h2⟩ := len_s h
  obtain ⟨x1, x2, x3, x4, x5, x6, x7, x8, x9, x10, x11, rfl⟩ := len11 h2
  exact ⟨x0, x1, x2, x3, x4, x5, x6, x7, x8, x9, x10, x11, rfl⟩
end Vx
namespace Vx
open PySem PySem.Spec PyProof.Rows L2
theorem Sep.mutnews {M : List Addr} {H0 G0 G H H' : Hp} {O : List Addr} (S : Sep M H0 G0 G H O) {L : List Addr} (x : SameXs L H H') (hL : ∀ a ∈ L, a ∈ O) (hs : ∀ a ∈ L, H' a ≠ none) (N : List Addr) (hN : ∀ a ∈ N, H a = none ∧ H' a ≠ none ∧ H0 a = none) : Sep M H0 G0 G H' (N ++ O) := by
  have S1 := S.mut x hL hs
  refine ⟨S1.base, S1.pm, S1.sG, S1.g0, S1.gn, fun a ha => ?_⟩
  rcases List.mem_append.mp ha with z | z
  · obtain ⟨h1, h2, h3⟩ := hN a z
    exact ⟨S.gfree h1, h2, .inr h3⟩
  · exact S1.ow a z
end Vx
/-! # sorted(set(xs)), xs a list of numbers -/
namespace Vs
open PySem PySem.Spec PyProof.Rows L2
section
variable {prog : Program} {wo : World} {Ar : Around} {Er : Value → Shared → Prop} {st : Shared}
/-- the object that set.__new__ lays -/
abbrev bare (wo : World) : Obj := { cls := .type "set", dict := none, data := .set #[] 0 (.fresh 0 0 (!wo.params.followText "set-order")) }
theorem get_bare (h : Heap) : (h.push (bare wo)).get? h.objs.size = some (bare wo) := Heap.get?_push_size _ rfl
/-- set.__init__ of a new, empty set over a list of numbers -/
theorem init_list {lst : Addr} {arr : Array Value} {ks : List Int} (calm : Ar.handled = none) (isl : st.heap.IsList lst arr) (hin : IntsAre arr.toList ks) (few : ks.length + 1 < scanBound)
    (R : Result → Shared → Prop)
    (fin : ∀ (g : Heap) (tk c : Nat), SetR wo g st.heap.objs.size (fun j => decide (j ∈ ks)) c → c ≤ ks.length → (∀ b o, st.heap.get? b = some o → g.get? b = some o) → R (.ok (.ret .none)) { st with heap := g, toks := tk }) :
    codeAny (model prog wo) Ar (.call (.builtin "set.__init__") ⟨[.ref st.heap.objs.size, .ref lst], []⟩) R { st with heap := st.heap.push (bare wo) } := by
  have typ : Shared.TypeIs { st with heap := st.heap.push (bare wo) } (.ref st.heap.objs.size) "set" := ⟨_, get_bare _, rfl⟩
  have len : arr.size = ks.length := by
    have z := hin.length
    rwa [Array.length_toList] at z
  refine codeAny_call_builtin F.called_set.init.plain F.entry_set_init (check_set_init_1 typ ?_)
  obtain ⟨⟨k1, k2, k3, k4⟩, ho, e1, m, e2⟩ := isl
  simp only at e1 e2
  subst e1 e2
  have below : lst < st.heap.objs.size := Heap.lt_size ho
  have il : (st.heap.push (bare wo)).IsList lst arr := ⟨_, Heap.get?_push_of_some _ ho, rfl, m, rfl⟩
  have a1 := F.sub_list_set
  have a2 := F.sub_list_frozenset
  have a3 : (Value.type "list" == Value.type "dict") = false := by decide
  have a4 := Heap.get?_push_of_some (bare wo) ho
  unfold Builtin.«set.__init__» noKeywords Builtin.Frozenset.updateFrom
  generalize hw : pyIter = WK
  wp_walk
  subst hw
  refine wpAny_pyIter_list il (wpAny_bind (wpAny_runValue ?_))
  have sz : (st.heap.push (bare wo)).objs.size = st.heap.objs.size + 1 := Heap.size_push ..
  have c3 : Ar.in1.in1.handled = none := by simp [calm]
  have far : lst ≠ (st.heap.push (bare wo)).objs.size := by rw [sz]; exact Nat.ne_of_lt (Nat.lt_succ_of_lt below)
  have out : st.heap.objs.size ∉ [(st.heap.push (bare wo)).objs.size, lst] := by
    intro z
    rcases List.mem_cons.mp z with z | z
    · rw [sz] at z; exact absurd z (Nat.ne_of_lt (Nat.lt_succ_self _))
    · exact absurd (List.mem_singleton.mp z) (Nat.ne_of_gt below)
  refine set_update_ints ((Walks.list c3 _ lst far arr).toS) st.heap.objs.size out ks len few (fun i v hv => ?_) (arr.size - 0) 0 _ (by omega) (Nat.zero_le _) ?_ ?_ ?_
  · have hi : i < ks.length := by rw [← len]; exact (Array.getElem?_eq_some_iff.mp hv).1
    obtain ⟨t, e⟩ := PyProof.Rows.IntsAre.int_at hin i v (by rw [Array.getElem?_toList]; exact hv)
    refine ⟨ks[i], t, List.getElem?_eq_getElem hi, ?_⟩
    rw [e, List.getD_eq_getElem?_getD, List.getElem?_eq_getElem hi] <;> rfl
  · exact ⟨⟨_, Heap.get?_push_size _ rfl, rfl, rfl⟩, il.push _⟩
  · exact ⟨0, Nat.le_refl 0, setR_new_at (Heap.get?_push_of_some _ (get_bare _))⟩
  · rintro ⟨g, q1, q2, q3, q4⟩ c mv hc hs
    have b1 : q1 = st.gens := mv.gens
    have b2 : q2 = st.drawn := mv.drawn
    have b3 : q4 = st.os := mv.os
    subst b1 b2 b3
    refine wpAny_pure ?_
    refine wpAny_pure ?_
    rw [len] at hc
    refine fin g q3 c hs hc fun b o e => ?_
    have hb : b < st.heap.objs.size := Heap.lt_size e
    refine mv.heap b o (fun z => ?_) (Heap.get?_push_of_some _ (Heap.get?_push_of_some _ e))
    rcases List.mem_cons.mp z with z | z
    · exact absurd z (Nat.ne_of_lt hb)
    · have z := List.mem_singleton.mp z
      rw [sz] at z
      exact absurd z (Nat.ne_of_lt (Nat.lt_succ_of_lt hb))
end
end Vs
namespace Vs
open PySem PySem.Spec PyProof.Rows L2
section
variable {prog : Program} {wo : World} {Ar : Around} {Er : Value → Shared → Prop} {st : Shared}
/-- set(xs): a new set of the numbers of a list -/
theorem make_list {lst : Addr} {arr : Array Value} {ks : List Int} {Q : Value → Shared → Prop} (calm : Ar.handled = none) (isl : st.heap.IsList lst arr) (hin : IntsAre arr.toList ks) (few : ks.length + 1 < scanBound)
    (fin : ∀ (g : Heap) (tk c : Nat), SetR wo g st.heap.objs.size (fun j => decide (j ∈ ks)) c → c ≤ ks.length → (∀ b o, st.heap.get? b = some o → g.get? b = some o) → Q (.ref st.heap.objs.size) { st with heap := g, toks := tk }) :
    wpAny (model prog wo) Ar (call (.type "set") [.ref lst]) Q Er st := by
  obtain ⟨cc, tl, hmro⟩ := F.called_set.mro
  have m1 := F.called_set.made
  have m2 := F.called_set.sub
  have m3 := F.called_set.notType
  have m4 := F.called_set.canCreate
  have m5 := F.typeCall_set_1 (.ref lst)
  refine wpAny_call (codeAny_of_tree ?_)
  show wpAny _ _ (callAny (.type "set") _) _ _ _
  refine wpAny_pure ⟨Code.quiet_builtin _ (by decide +kernel), codeAny_builtin F.entry_type_call ?_⟩
  rw [Around.under_plain (weight_type_call_type "set" [.ref lst] []) rfl]
  repeat (any_goals (first | assumption | wp_step))
  refine codeAny_mono (code_set_led1 (.ref lst) (E := Er) (Q₁ := fun obj z => obj = .ref st.heap.objs.size ∧ z = { st with heap := st.heap.push (bare wo) }) ⟨rfl, rfl⟩) fun r z hr => ?_
  match r, hr with
  | .error e, hr => exact hr
  | .ok (.ret obj), hr =>
    obtain ⟨rfl, rfl⟩ := hr
    have m6 := F.called_set.init.lookup
    have m7 := F.called_set.init.bind (.ref st.heap.objs.size)
    have typ : Shared.TypeIs { st with heap := st.heap.push (bare wo) } (.ref st.heap.objs.size) "set" := ⟨_, get_bare _, rfl⟩
    repeat (any_goals (first | assumption | wp_step))
    refine codeAny_mono (init_list (R := wants (fun r z => r = .none ∧ ∃ g tk c, z = { st with heap := g, toks := tk } ∧ SetR wo g st.heap.objs.size (fun j => decide (j ∈ ks)) c ∧ c ≤ ks.length ∧ ∀ b o, st.heap.get? b = some o → g.get? b = some o) Er)
      (by simp [calm]) isl hin few fun g tk c a b k => ⟨rfl, g, tk, c, rfl, a, b, k⟩) fun r z hr => ?_
    match r, hr with
    | .error e, hr => exact hr
    | .ok (.ret v), hr =>
      obtain ⟨rfl, g, tk, c, rfl, a, b, k⟩ := hr
      repeat (any_goals (first | assumption | wp_step))
      exact fin _ _ _ a b k
end
section
variable {X : Cx}
/-- set(xs) -/
def rSetI (w : World) : List V → Hp → VK → Prop := fun xs H Q => ∃ (l : Addr) (ks : List Int), xs = [V.ref l] ∧ (∃ K, SqL K H l (ks.map V.int)) ∧ ks.length ≤ 50 ∧
  ∀ (p : Addr) (n : Nat), n ≤ ks.length → H p = none → Q (.ref p) (upd H p (SetO w p (fun j => decide (j ∈ ks)) n))
end
end Vs
namespace Vx
open PySem PySem.Spec PyProof.Rows L2
section
variable {X : Cx}
def rSetI (K : PySem.W.Frag) (w : World) : List V → Hp → VK → Prop := fun xs H Q => ∃ (l : Addr) (ks : List Int), xs = [V.ref l] ∧ SqL K H l (ks.map V.int) ∧ ks.length ≤ 50 ∧
  ∀ (p : Addr) (n : Nat), n ≤ ks.length → H p = none → Q (.ref p) (upd H p (SetO w p (fun j => decide (j ∈ ks)) n))
theorem cr_setI {K : PySem.W.Frag} {w : World} (hc : X.calm = true) (hK : X.K = K := by rfl) (hw : X.w = w := by rfl) : CallR X (.type "set") (rSetI K w) := by
  subst hK hw
  intro pins s σ H xs us Q I r h
  obtain ⟨l, ks, rfl, hl, hf, q⟩ := h
  rw [Vals.ref1 r]
  obtain ⟨its, rv, pl, hz⟩ := I.list hl
  have hb : scanBound = 4096 := rfl
  refine Vs.make_list (I.ok.hd hc) pl.isList (by simpa using ints_of_vals rv) (by omega) fun g tk c R hcn k => ?_
  exact ⟨.ref _, upd H _ (SetO X.w _ (fun j => decide (j ∈ ks)) c), I.laid (t' := tk) k (Nat.le_refl _) (setO_new R), rfl, q _ c hcn (I.hok.fresh (Nat.le_refl _))⟩
def rSortSet (w : World) : List V → Hp → VK → Prop := fun vs H Q => ∃ (a : Addr) (ks : List Int) (n : Nat), vs = [V.ref a] ∧ H a = some (SetO w a (fun j => decide (j ∈ ks)) n) ∧ n ≤ 50 ∧
  ∀ (ns : List Int) (p : Addr), ns.Pairwise (· < ·) → (∀ k : Int, k ∈ ns ↔ k ∈ ks) → H p = none → Q (.ref p) (upd H p (.lst (ns.map V.int)))
theorem cr_sortSet {w : World} (hc : X.calm = true) (hw : X.w = w := by rfl) : CallR X (.builtin "sorted") (rSortSet w) := by
  subst hw
  intro pins s σ H vs us Q I r h
  obtain ⟨a, ks, n, rfl, ha, h64, q⟩ := h
  exact cr_sortedSet hc pins s σ H _ us Q I r ⟨a, _, n, rfl, ha, by omega, fun ns p pw hm hl hn => q ns p pw (fun k => (hm k).trans decide_eq_true_iff) hn⟩
end
/-! ### numbers in order, each once -/
def insS (x : Int) : List Int → List Int
  | [] => [x]
  | y :: r => if x < y then x :: y :: r else if x = y then y :: r else y :: insS x r
def sortSet (xs : List Int) : List Int := xs.foldr insS []
theorem insS_mem {x k : Int} : ∀ {l : List Int}, k ∈ insS x l ↔ k = x ∨ k ∈ l
  | [] => by simp [insS]
  | y :: r => by
    unfold insS
    split
    · simp
    · split
      · next h => subst h; simp
      · rw [List.mem_cons, insS_mem (l := r), List.mem_cons]
        constructor <;> (intro h; rcases h with h | h | h <;> simp [h])
theorem insS_pw {x : Int} : ∀ {l : List Int}, l.Pairwise (· < ·) → (insS x l).Pairwise (· < ·)
  | [], _ => by simp [insS]
  | y :: r, h => by
    have hy := List.pairwise_cons.mp h
    unfold insS
    split
    · next c =>
      refine List.pairwise_cons.mpr ⟨fun z hz => ?_, h⟩
      rcases List.mem_cons.mp hz with rfl | hz
      · exact c
      · exact Int.lt_trans c (hy.1 z hz)
    · next c =>
      split
      · exact h
      · refine List.pairwise_cons.mpr ⟨fun z hz => ?_, insS_pw hy.2⟩
        rcases insS_mem.mp hz with rfl | hz
        · omega
        · exact hy.1 z hz
theorem sortSet_mem {k : Int} : ∀ {l : List Int}, k ∈ sortSet l ↔ k ∈ l
  | [] => Iff.rfl
  | y :: r => by
    show k ∈ insS y (sortSet r) ↔ _
    rw [insS_mem, sortSet_mem (l := r), List.mem_cons]
theorem sortSet_pw : ∀ l : List Int, (sortSet l).Pairwise (· < ·)
  | [] => List.Pairwise.nil
  | y :: r => insS_pw (sortSet_pw r)
theorem pw_uniq : ∀ {a b : List Int}, a.Pairwise (· < ·) → b.Pairwise (· < ·) → (∀ k : Int, k ∈ a ↔ k ∈ b) → a = b
  | [], [], _, _, _ => rfl
  | [], y :: r, _, _, h => absurd ((h y).mpr List.mem_cons_self) (by simp)
  | x :: r, [], _, _, h => absurd ((h x).mp List.mem_cons_self) (by simp)
  | x :: r, y :: t, p, q, h => by
    have p := List.pairwise_cons.mp p
    have q := List.pairwise_cons.mp q
    have e : x = y := by
      rcases List.mem_cons.mp ((h x).mp List.mem_cons_self) with e | e
      · exact e
      · rcases List.mem_cons.mp ((h y).mpr List.mem_cons_self) with e2 | e2
        · exact e2.symm
        · have := q.1 x e
          have := p.1 y e2
          omega
    subst e
    rw [pw_uniq p.2 q.2 fun k => ?_]
    have hk := h k
    rw [List.mem_cons, List.mem_cons] at hk
    constructor
    · intro z
      rcases hk.mp (.inr z) with e | e
      · have := p.1 k z; omega
      · exact e
    · intro z
      rcases hk.mpr (.inr z) with e | e
      · have := q.1 k z; omega
      · exact e
theorem sortSet_of {ks ns : List Int} (p : ns.Pairwise (· < ·)) (h : ∀ k : Int, k ∈ ns ↔ k ∈ ks) : ns = sortSet ks := pw_uniq p (sortSet_pw ks) fun k => (h k).trans sortSet_mem.symm
theorem gen_new2 {H H' : Hp} {p q : Addr} {o u : HO} (n : H p = none) (m : upd H p o q = none) (h : upd (upd H p o) q u = H') : Same H H' ∧ H' q = some u ∧ H q = none := by
  have hne : q ≠ p := fun z => by rw [z, upd_same] at m; cases m
  have hq : H q = none := by rwa [upd_ne hne] at m
  subst h
  refine ⟨fun b x e => ?_, upd_same, hq⟩
  rw [upd_ne (fun z => by rw [z, hq] at e; cases e), upd_ne (fun z => by rw [z, n] at e; cases e)]
  exact e
/-! ### texts in tuples and lists -/
theorem map_getF {α : Type} {f : α → V} {xs : List α} {i : Nat} {x : V} (h : (xs.map f)[i]? = some x) : ∃ o, xs[i]? = some o ∧ x = f o := by
  rw [List.getElem?_map] at h
  cases e : xs[i]? with
  | none => rw [e] at h; cases h
  | some o => rw [e] at h; exact ⟨o, rfl, (Option.some.inj h).symm⟩
theorem inV_strs (x : Str) : ∀ xs : List Str, inV (V.str x) (xs.map V.str) = decide (x ∈ xs)
  | [] => by simp [inV]
  | y :: r => by
    have h := inV_strs x r
    unfold inV at h ⊢
    rw [List.map_cons, List.any_cons, h]
    by_cases c : x = y
    · subst c
      simp [eqV]
    · simp [eqV, c, Ne.symm c]
theorem flat_strs : ∀ xs : List Str, (xs.map V.str).all flatV = true
  | [] => rfl
  | _ :: r => flat_strs r
section
variable {X : Cx} {K : PySem.W.Frag}
def rInS (K : PySem.W.Frag) : R2 := fun x y H Q => ∃ (i : Str) (p : Addr) (xs : List Str), x = .str i ∧ y = .ref p ∧ (SqL K H p (xs.map V.str) ∨ SqT K H p (xs.map V.str)) ∧ Q (.bl (decide (i ∈ xs))) H
theorem op_inS (hK : X.K = K := by rfl) : OpR X (compareOp .In) (rInS K) := by
  subst hK
  intro pins s σ H x y v u Q I rx ry h
  obtain ⟨i, p, xs, e1, e2, hs, q⟩ := h
  refine op_in_seq pins s σ H _ _ v u Q I rx ry ⟨p, _, e2, hs, by rw [e1]; rfl, flat_strs xs, ?_⟩
  rw [if_neg Bool.false_ne_true, e1, inV_strs]
  exact q
/-- a list or a tuple of numbers -/
def SeqI (K : PySem.W.Frag) (H : Hp) (v : V) (xs : List Int) : Prop := ∃ a, v = .ref a ∧ (H a = some (.lst (xs.map V.int)) ∨ H a = some (.tup (xs.map V.int)) ∨ ∀ H, SqT K H a (xs.map V.int))
def rListSI (K : PySem.W.Frag) : List V → Hp → VK → Prop := fun xs H Q => ∃ (v : V) (ks : List Int), xs = [v] ∧ SeqI K H v ks ∧ ∀ l, H l = none → Q (.ref l) (upd H l (.lst (ks.map V.int)))
theorem call_listSI (hK : X.K = K := by rfl) : CallR X (.type "list") (rListSI K) := by
  subst hK
  intro pins s σ H xs us Q I r h
  obtain ⟨v, ks, rfl, ⟨a, rfl, h2⟩, q⟩ := h
  refine call_list_of pins s σ H _ us Q I r ⟨a, _, rfl, ?_, q⟩
  rcases h2 with z | z | z
  · exact .inl (SqL.of z)
  · exact .inr (SqT.of z)
  · exact .inr (z H)
theorem SeqI.mono {H H' : Hp} {v : V} {xs : List Int} (e : Same H H') (h : SeqI K H v xs) : SeqI K H' v xs := by
  obtain ⟨a, e1, h⟩ := h
  refine ⟨a, e1, ?_⟩
  rcases h with z | z | z
  · exact .inl (e _ _ z)
  · exact .inr (.inl (e _ _ z))
  · exact .inr (.inr z)
def rTupLK (K : PySem.W.Frag) : List V → Hp → VK → Prop := fun xs H Q => ∃ (p : Addr) (ks : List Int), xs = [.ref p] ∧ SqL K H p (ks.map V.int) ∧ ∀ l, H l = none → Q (.ref l) (upd H l (.tup (ks.map V.int)))
theorem call_tupLK (hK : X.K = K := by rfl) : CallR X (.type "tuple") (rTupLK K) := by
  subst hK
  intro pins s σ H xs us Q I r h
  obtain ⟨p, ks, rfl, hs, q⟩ := h
  exact call_tuple_of pins s σ H _ us Q I r ⟨p, _, rfl, .inl ⟨hs, q⟩⟩
end
/-! ### written dicts of tuples with text keys -/
def lookG {α : Type} : List (Str × α) → Str → Option α
  | [], _ => none
  | (k, v) :: r, i => if k = i then some v else lookG r i
def dictG {α : Type} [Inhabited α] (kvs : List (Str × α)) (i : Str) : α := (lookG kvs i).getD default
def hasG {α : Type} (kvs : List (Str × α)) (i : Str) : Bool := (lookG kvs i).isSome
theorem lookG_at {α : Type} [Inhabited α] {kvs : List (Str × α)} {i : Str} (h : hasG kvs i = true) : lookG kvs i = some (dictG kvs i) := by
  unfold hasG at h
  unfold dictG
  cases e : lookG kvs i with
  | none => rw [e] at h; cases h
  | some v => rfl
inductive EA (P : Params) : List (Str × Addr) → List DictEntry → Prop
  | nil : EA P [] []
  | cons {h k a} {t : Tok} {r : List (Str × Addr)} {es : List DictEntry} (e : h = PyData.keyHash P k) (x : EA P r es) : EA P ((k, a) :: r) (⟨h, .str k t, .ref a⟩ :: es)
def KDA (K : PySem.W.Frag) (w : World) (a : Addr) (kvs : List (Str × Addr)) : Prop :=
  ∃ es n, K.lookup a = some ⟨.type "dict", none, .dict es n, #[]⟩ ∧ EA w.params kvs es.toList
theorem EA.lit {P : Params} : ∀ {kvs : List (Str × Addr)} {es : List DictEntry}, EA P kvs es → PySem.W.KeysLit P es
  | _, _, .nil => trivial
  | _, _, .cons e x => ⟨⟨_, _, rfl, e⟩, EA.lit x⟩
theorem EA.find {P : Params} {i : Str} {a : Addr} : ∀ {kvs : List (Str × Addr)} {es : List DictEntry}, EA P kvs es → lookG kvs i = some a → ∃ e, es.find? (fun e => e.key.isStr i) = some e ∧ e.val = .ref a
  | _, _, .nil, h => by cases h
  | _, _, .cons (k := k) e x, h => by
    unfold lookG at h
    by_cases q : k = i
    · rw [if_pos q] at h
      subst q
      cases h
      refine ⟨_, List.find?_cons_of_pos ?_, rfl⟩
      simp [Value.isStr]
    · rw [if_neg q] at h
      obtain ⟨e', h1, h2⟩ := EA.find x h
      refine ⟨e', ?_, h2⟩
      rw [List.find?_cons_of_neg]
      · exact h1
      · simp [Value.isStr, q]
def rIxDA (K : PySem.W.Frag) (w : World) : R2 := fun x y H Q => ∃ (p : Addr) (z : Str) (kvs : List (Str × Addr)) (a : Addr), x = .ref p ∧ y = .str z ∧ KDA K w p kvs ∧ lookG kvs z = some a ∧ Q (.ref a) H
theorem ix_DA {X : Cx} {K : PySem.W.Frag} {w : World} (hK : X.K = K := by rfl) (hw : X.w = w := by rfl) : IxR X (rIxDA K w) := by
  subst hK hw
  intro value slice pins s σ H x y v u Q I rx ry h hs
  obtain ⟨p, z, kvs, a, e1, e2, ⟨es, n, hl, xx⟩, e, q⟩ := h
  obtain ⟨en, h1, h2⟩ := xx.find e
  refine ix_kdict value slice pins s σ H x y v u Q I rx ry ⟨p, z, .ref a, e1, e2, ⟨es, n, .ref a, hl, xx.lit, ?_, rfl⟩, q⟩ hs
  unfold PySem.W.nsIn
  rw [hl]
  show (match es.toList.find? (fun e => e.key.isStr z) with
      | some e => some (some e.val)
      | none => if es.toList.any (·.refKey) then none else some none) = _
  rw [h1]
  show some (some en.val) = _
  rw [h2]
theorem F2.look {α β : Type} [Inhabited α] [Inhabited β] {P : α → β → Prop} {z : Str} : ∀ {l : List (Str × α)} {m : List (Str × β)}, F2 (fun p q => p.1 = q.1 ∧ P p.2 q.2) l m → hasG m z = true → P (dictG l z) (dictG m z)
  | _, _, .nil, h => by cases h
  | (k, a) :: l, (k2, b) :: m, .cons h r, hz => by
    obtain ⟨e, hp⟩ := h
    have e : k = k2 := e
    subst e
    unfold hasG lookG at hz
    unfold dictG lookG
    by_cases q : k = z
    · rw [if_pos q, if_pos q]; exact hp
    · rw [if_neg q] at hz
      rw [if_neg q, if_neg q]
      exact F2.look r hz
theorem F2.hasK {α β : Type} {P : α → β → Prop} {z : Str} : ∀ {l : List (Str × α)} {m : List (Str × β)}, F2 (fun p q => p.1 = q.1 ∧ P p.2 q.2) l m → hasG m z = true → hasG l z = true
  | _, _, .nil, h => by cases h
  | (k, a) :: l, (k2, b) :: m, .cons h r, hz => by
    have e : k = k2 := h.1
    subst e
    unfold hasG lookG at hz ⊢
    by_cases q : k = z
    · rw [if_pos q]; rfl
    · rw [if_neg q] at hz ⊢
      exact F2.hasK r hz
end Vx
namespace Vx
open PySem PySem.Spec PyProof.Rows L2
theorem op_notFalse {X : Cx} : OpR X (compareOp .IsNot) (fun x y H Q => ∃ b : Bool, x = .bl b ∧ y = .bl false ∧ Q (.bl b) H) := by
  intro pins s σ H x y v u Q I rx ry h
  obtain ⟨b, rfl, rfl, q⟩ := h
  cases rx
  cases ry
  show wpAny (model X.prog X.w) X.A (compareOp .IsNot (.bool b) (.bool false)) (EP X pins σ Q) X.xe s
  have e : compareOp .IsNot (.bool b) (.bool false) = pure (.bool b) := by cases b <;> rfl
  rw [e]
  exact wpAny_pure ⟨.bl b, H, I, rfl, q⟩
end Vx
/-! ### comprehensions that change an object -/
namespace Vx
open PySem PySem.Spec PyProof.Rows L2
section
variable {α β σ γ : Type}
def bind2 (m : Rx (α × σ)) (f : α → σ → Rx γ) : Rx γ := m.bind fun v => f v.1 v.2
def mapAS : List α → List β → σ → (σ → α → Rx (β × σ)) → Rx (List β × σ)
  | [], acc, s, _ => .ok (acc, s)
  | x :: r, acc, s, f => grd (acc.length ≤ 1000000) ((f s x).bind fun y => mapAS r (acc ++ [y.1]) y.2 f)
def mapFS : List α → List β → σ → (σ → α → Rx (Option β × σ)) → Rx (List β × σ)
  | [], acc, s, _ => .ok (acc, s)
  | x :: r, acc, s, f => grd (acc.length ≤ 1000000) ((f s x).bind fun y =>
    match y.1 with
    | some z => mapFS r (acc ++ [z]) y.2 f
    | none => mapFS r acc y.2 f)
theorem cW_push2 {m : Rx (α × σ)} {f : α → σ → Rx γ} {K : γ → Prop} {E : Nat → Prop} (h : cW (bind2 m f) K E) : ∃ K2 : α × σ → Prop, (∀ a s, K2 (a, s) → cW (f a s) K E) ∧ cW m K2 E := ⟨fun v => cW (f v.1 v.2) K E, fun _ _ x => x, cW_call h (fun _ x => x) fun _ x => x⟩
theorem cW_mapAS {K : List β × σ → Prop} {E : Nat → Prop} {xs : List α} {acc : List β} {s : σ} {i : Nat} {x : α} {f : σ → α → Rx (β × σ)} (hx : xs[i]? = some x) (h : cW (mapAS (xs.drop i) acc s f) K E) :
    acc.length ≤ 1000000 ∧ cW (f s x) (fun y => cW (mapAS (xs.drop (i + 1)) (acc ++ [y.1]) y.2 f) K E) E := by
  rw [List.drop_eq_getElem?_toList_append, hx] at h
  obtain ⟨z, h⟩ := cW_grd h
  exact ⟨z, cW_call h (fun _ z => z) fun _ z => z⟩
theorem cW_mapAS0 {K : List β × σ → Prop} {E : Nat → Prop} {xs : List α} {acc : List β} {s : σ} {n : Nat} {f : σ → α → Rx (β × σ)} (hn : n = xs.length) (h : cW (mapAS (xs.drop n) acc s f) K E) : K (acc, s) := by
  subst hn
  rw [List.drop_length] at h
  exact cW_ok h
theorem cW_mapFS {K : List β × σ → Prop} {E : Nat → Prop} {xs : List α} {acc : List β} {s : σ} {i : Nat} {x : α} {f : σ → α → Rx (Option β × σ)} (hx : xs[i]? = some x) (h : cW (mapFS (xs.drop i) acc s f) K E) :
    acc.length ≤ 1000000 ∧ cW (f s x) (fun y => match y.1 with | some z => cW (mapFS (xs.drop (i + 1)) (acc ++ [z]) y.2 f) K E | none => cW (mapFS (xs.drop (i + 1)) acc y.2 f) K E) E := by
  rw [List.drop_eq_getElem?_toList_append, hx] at h
  obtain ⟨z, h⟩ := cW_grd h
  refine ⟨z, cW_call h (fun y z => ?_) fun _ z => z⟩
  obtain ⟨o, t⟩ := y
  cases o with
  | none => exact z
  | some w => exact z
theorem cW_mapFS0 {K : List β × σ → Prop} {E : Nat → Prop} {xs : List α} {acc : List β} {s : σ} {n : Nat} {f : σ → α → Rx (Option β × σ)} (hn : n = xs.length) (h : cW (mapFS (xs.drop n) acc s f) K E) : K (acc, s) := by
  subst hn
  rw [List.drop_length] at h
  exact cW_ok h
end
theorem sx_of {L : List Addr} {a b : Hp} (h : Same a b) : SameXs L a b := fun p o e _ => h p o e
theorem sx_same {L : List Addr} {a b c : Hp} (h : SameXs L a b) (k : Same b c) : SameXs L a c := fun p o e n => k p o (h p o e n)
theorem sx_mut {L : List Addr} {a b c : Hp} (h : SameXs L a b) (k : SameXs L b c) : SameXs L a c := fun p o e n => k p o (h p o e n) n
theorem sx_mut1 {L : List Addr} {a b c : Hp} {D : Addr} (h : SameXs L a b) (k : SameX D b c) (d : a D = none) : SameXs L a c := fun p o e n => k p o (h p o e n) (ne_of_none e d)
def rIndexTS (K : PySem.W.Frag) : V → List V → Hp → VK → Prop := fun x xs H Q => ∃ (p : Addr) (ys : List Str) (z : Str), x = .ref p ∧ xs = [.str z] ∧ SqT K H p (ys.map V.str) ∧ z ∈ ys ∧ Q (.int ((ys.idxOf z : Nat) : Int)) H
theorem mt_indexTS {X : Cx} {K : PySem.W.Frag} (hK : X.K = K := by rfl) : MtR X "tuple.index" (rIndexTS K) := by
  subst hK
  intro pins s σ H x xs v us Q I rx rxs h
  obtain ⟨p, ys, z, rfl, rfl, hs, hm, q⟩ := h
  refine mt_tup_index pins s σ H _ _ v us Q I rx rxs ⟨p, ys, z, ys.idxOf z, rfl, rfl, hs, ?_, ?_, q⟩
  · have hl := List.idxOf_lt_length_iff.mpr hm
    rw [List.getElem?_eq_getElem hl]
    exact congrArg some (List.getElem_idxOf hl)
  · intro m hm2 hg
    have h1 := (List.getElem?_eq_some_iff.mp hg)
    obtain ⟨h2, h3⟩ := h1
    have h4 := List.not_of_lt_findIdx hm2
    rw [h3, beq_self_eq_true] at h4
    cases h4
end Vx
/-! # try with several clauses that name the exception -/
namespace Ve
open PySem PySem.Spec PyProof.Rows L2
abbrev Suite := Addr → Value → Option Addr → TS
/-- what a list of clauses wishes: the first whose class fits, and its suite; none: the outer wish -/
def wCl (K : PySem.W.Frag) (Wout : WX) (D : Ends) : List (Value × Nat × Suite) → WX
  | [] => Wout
  | c :: r => wAs K c.1 c.2.1 c.2.2 (wCl K Wout D r) D
/-- one clause `except x as n: suite` -/
structure ClOk (X : Cx) (h : ExceptHandler) (c : Value × Nat × Suite) : Prop where
  ex : ∃ (x n : Str) (b₀ : Stmt) (suite : List Stmt) (np p : Pos), h = .ExceptHandler (some (.Name x np)) (some n) (b₀ :: suite) p ∧ Names X x c.1 ∧ X.N[c.2.1]? = some n ∧ X.env.kindOf n = some .local ∧
    ∀ (a : Addr) (oe : Obj) (cls : Value) (d : Option Addr) (pn : List (Addr × Obj)), Zc cls d oe → (∃ vs, oe.data = .fields vs) → PSs (X.suite a ((a, oe) :: pn)) (b₀ :: suite) (c.2.2 a cls d)
inductive ClsOk (X : Cx) : List ExceptHandler → List (Value × Nat × Suite) → Prop
  | nil : ClsOk X [] []
  | cons {h : ExceptHandler} {hs : List ExceptHandler} {c : Value × Nat × Suite} {cs : List (Value × Nat × Suite)} : ClOk X h c → ClsOk X hs cs → ClsOk X (h :: hs) (c :: cs)
theorem cl_mk {X : Cx} {x n : Str} {b₀ : Stmt} {suite : List Stmt} {np p : Pos} {cv : Value} {i : Nat} {ts : Suite} (nm : Names X x cv) (hi : X.N[i]? = some n) (hln : X.env.kindOf n = some .local)
    (hsu : ∀ (a : Addr) (oe : Obj) (cls : Value) (d : Option Addr) (pn : List (Addr × Obj)), Zc cls d oe → (∃ vs, oe.data = .fields vs) → PSs (X.suite a ((a, oe) :: pn)) (b₀ :: suite) (ts a cls d)) : ClOk X (.ExceptHandler (some (.Name x np)) (some n) (b₀ :: suite) p) (cv, i, ts) :=
  ⟨⟨x, n, b₀, suite, np, p, rfl, nm, hi, hln, hsu⟩⟩
section
variable {X : Cx} {body : List Stmt} {h₀ : ExceptHandler} {hds : List ExceptHandler} {cs : List (Value × Nat × Suite)} {pos : Pos} {tb : WX → TS} {Wout : WX}
theorem ps_try_cls (hs : X.stack = X.env :: X.outer) (hf : X.env.frame = some X.env.locals) (hN : X.N.Nodup) (tk : Takes X Wout)
    (hb : ∀ (W : WX) (pn : List (Addr × Obj)) (xe : Value → Shared → Prop), Takes (X.tr pn xe) W → PassesOwn (model X.prog X.w) X.A X.env xe → PSs (X.tr pn xe) body (tb W))
    (hh : ClsOk X (h₀ :: hds) cs) : PS X (.Try body (h₀ :: hds) [] [] pos) (fun D σ H => tb (wCl X.K Wout D cs) D σ H) := by
  refine ⟨fun pins s σ H D I h => ?_⟩
  have ok := I.ok
  have hfr : X.A.frames = some (X.env :: X.outer) := by rw [ok.frames, hs]
  refine wpAny_Try_except ?_
  let R : Flow → Shared → Prop := SP X pins D
  refine wpAny_mono ((hb (wCl X.K Wout D cs) (X.pn ++ pins) (fun e s₁ => wpAny (model X.prog X.w) X.A (noteFrame e X.env) (fun _ s₂ => wpAny (model X.prog X.w) X.A (setFlight e none) (fun _ s₃ =>
    wpAny (model X.prog X.w) X.A (handleBy e X.env (h₀ :: hds)) R X.xe s₃) X.xe s₂) X.xe s₁) (fun u s' xx => ?_) PassesOwn.looking).run [] s σ H D (I.toTry _) h) (fun f s1 hsp => ?_) (fun e s1 he => he)
  · obtain ⟨a, B, sI, pins', σ', H', cls, d, rfl, J', nb, up, sky, na, os, ag, w⟩ := xx
    have J : Inv X pins σ' H' sI := J'.ofTry ok
    have sky' : Sky B (X.env :: X.outer) a (Zc cls d) X.env.locals s'.heap := by rw [← hs]; exact sky
    show wpAny (model X.prog X.w) X.A (noteFrame (.ref a) X.env) _ _ _
    refine Sky.land Zc.steady hfr hf sky' fun h3 fl3 up3 => ?_
    have up13 := up.trans up3
    have J3 : Inv X pins σ' H' { s' with heap := h3 } := J.landed nb fl3.1 up13 os ag
    obtain ⟨oe3, vs3, he3, hz3, hd3⟩ := fl3.there
    have away : a ∉ frs (X.env :: X.outer) := fun hm => by
      obtain ⟨_, o', e', hnf⟩ := fl3.2.2.1.mem hm
      rw [he3] at e'
      cases e'
      exact hnf _ hd3
    have nL : a ≠ X.env.locals := fun z => away (List.mem_filterMap.mpr ⟨X.env, List.mem_cons_self, by rw [hf, z]⟩)
    have nF : a ∉ X.fs := fun hm => by
      obtain ⟨e, he, q⟩ := List.mem_filterMap.mp hm
      exact away (List.mem_filterMap.mpr ⟨e, List.mem_cons_of_mem _ he, q⟩)
    have S3 := J3.suite he3 hd3 na nL nF
    have each : ∀ {hs2 : List ExceptHandler} {cs2 : List (Value × Nat × Suite)}, ClsOk X hs2 cs2 → wCl X.K Wout D cs2 cls d σ' H' → wpAny (model X.prog X.w) X.A (handleBy (.ref a) X.env hs2) R X.xe { s' with heap := h3 } := by
      intro hs2 cs2 hk
      induction hk with
      | nil =>
        intro w
        refine wpAny_handleBy_nil ?_
        obtain ⟨_, _, _, oe, vs, T, oT, ts', he, _, hd, h1, _⟩ := id fl3
        unfold PySem.passOn
        refine wpAny_bind (wpAny_field he hd h1 ?_)
        rw [if_neg (show ¬ ((Value.ref T == Value.none) = true) from by simp)]
        have out : wpAny (model X.prog X.w) X.A (setFlight (.ref a) X.env.frame) (fun _ s4 => wpAny (model X.prog X.w) X.A (throw (.ref a) : Sem Flow) R X.xe s4) X.xe { s' with heap := h3 } := by
          rw [hf]
          exact HandSPX.setFlight_upZ fl3 fun h4 hh4 up4 => wpAny_throw (tk _ _ ⟨a, B, sI, pins, σ', H', cls, d, rfl, J, nb, up13.trans up4, .inr (.inr (by rw [hs]; exact hh4)), na, os, ag, w⟩)
        first
          | exact wpAny_bind (wpAny_pure (wpAny_bind out))
          | exact wpAny_bind out
      | cons hc _ ih =>
        intro w
        obtain ⟨x, n, b₀, suite, np, p, rfl, nm, hi, hln, hsu⟩ := hc.ex
        obtain ⟨b, hb1, yes, no⟩ := w
        refine wpAny_handleBy_cons (codeAny_handlers_test ?_) (by intro q; cases q)
        have LM := PySem.W.exm_one (M := model X.prog X.w) (J3.kIn) (show PySem.W.Looks (model X.prog X.w) h3 (typeOf (.ref a)) cls from fun A Q E s k q => wpAny_typeOf_ref (k _ _ he3) (by rw [hz3.1]; exact q)) hb1
        have named : ∀ {Q : Value → Shared → Prop} {E : Value → Shared → Prop}, Q _ { s' with heap := h3 } → wpAny (model X.prog X.w) (X.A.mark (some (.ref a))) (eval (.Name x np) X.env) Q E { s' with heap := h3 } := fun {Q E} q => by
          obtain ⟨hg, hdbg, hm | ⟨hm, hv, hnn⟩⟩ := nm
          · exact ld_glob (X := X.suite a ((a, oe3) :: (X.pn ++ pins))) S3 hg hm q hdbg
          · exact ld_blt (X := X.suite a ((a, oe3) :: (X.pn ++ pins))) S3 hg hm hv q hnn hdbg
        refine named (LM.here ?_)
        cases b with
        | false => exact ih (no rfl)
        | true =>
          refine codeAny_handlers_suite_as ?_
          refine HandSPX.lands_againZ fl3 fun h4 fl4 up4 => ?_
          have J4 : Inv X pins σ' H' { s' with heap := h4 } := J.landed nb fl4.1 (up13.trans up4) os ag
          obtain ⟨oe4, vs4, he4, hz4, hd4⟩ := fl4.there
          have S4 := J4.suite he4 hd4 na nL nF
          refine store_ok (X := X.suite a ((a, oe4) :: (X.pn ++ pins))) (v := .ref a) S4 hN hi (.inl hln) rfl (fun s5 S5 => ?_) (.inr hln)
          have fin : ∀ {σ6 : L2.St} {H6 : Hp} {s6 : Shared} {Q : Shared → Prop}, Inv (X.suite a ((a, oe4) :: (X.pn ++ pins))) [] σ6 H6 s6 → (∀ s7, Inv X pins (σ6.set _ none) H6 s7 → Q s7) →
              wpAny (model X.prog X.w) X.A (do bindName X.env n .none; unbindBehindTheSuite X.env n p) (fun _ s7 => Q s7) X.xe s6 := fun S6 hq => gone_ok (S6.unsuite ok) hN hi hln hq
          refine wpAny_mono ((hsu a oe4 cls d (X.pn ++ pins) hz4 ⟨_, hd4⟩).run [] s5 _ H' _ S5 (yes rfl a na)) (fun f s6 hsp => ?_) (fun _ _ z => False.elim z)
          cases f with
          | ret u =>
            obtain ⟨v6, σ6, H6, S6, r6, q6⟩ := hsp
            exact fin S6 fun s7 J7 => ⟨_, _, _, J7, r6, q6⟩
          | next =>
            obtain ⟨σ6, H6, S6, q6⟩ := hsp
            exact fin S6 fun s7 J7 => ⟨_, _, J7, q6⟩
          | brk =>
            obtain ⟨σ6, H6, S6, q6⟩ := hsp
            exact fin S6 fun s7 J7 => ⟨_, _, J7, q6⟩
          | cont =>
            obtain ⟨σ6, H6, S6, q6⟩ := hsp
            exact fin S6 fun s7 J7 => ⟨_, _, J7, q6⟩
    exact each hh w
  · cases f with
    | ret u =>
      obtain ⟨v, σ', H', J', r, q⟩ := hsp
      exact ⟨v, σ', H', J'.ofTry ok, r, q⟩
    | next =>
      obtain ⟨σ', H', J', q⟩ := hsp
      exact wpAny_execs_nil ⟨σ', H', J'.ofTry ok, q⟩
    | brk =>
      obtain ⟨σ', H', J', q⟩ := hsp
      exact ⟨σ', H', J'.ofTry ok, q⟩
    | cont =>
      obtain ⟨σ', H', J', q⟩ := hsp
      exact ⟨σ', H', J'.ofTry ok, q⟩
end
end Ve
namespace Vx
open PySem PySem.Spec PyProof.Rows L2
theorem exm_mk0 {K : PySem.W.Frag} {S C : Addr} (h1 : PySem.W.subIn K (.ref C) (.type "BaseException") = some true) (h0 : (Value.ref S == Value.ref C) = false) (h2 : PySem.W.isClsIn K C = true) (h3 : PySem.W.typeIn K (.ref C) = some (.type "type")) (h4 : PySem.W.subIn K (.ref S) (.ref C) = some false) :
    PySem.W.exmOne K (.ref S) (.ref C) = some false := by
  unfold PySem.W.exmOne
  rw [h1]
  have k := kit_mk0 (K := K) h0 h2 h3 h4
  unfold PySem.W.kitOne at k
  simpa [h0] using k
theorem Sep.mutstep {M : List Addr} {H0 G0 G H H' : Hp} {O : List Addr} (S : Sep M H0 G0 G H O) {L : List Addr} (x : SameXs L H H') (hL : ∀ a ∈ L, a ∈ O) (hs : ∀ a ∈ L, H' a ≠ none) {G' : Hp} (eG : Same G G') (sG : Same G' H') (hn : ∀ b, H b ≠ none → G b = none → G' b = none) : Sep M H0 G0 G' H' O := by
  have S1 := S.mut x hL hs
  exact ⟨S1.base, S1.pm, sG, S.g0.trans eG, fun b hb gb => hn b (fun z => hb (S.free z)) (S.gn b hb gb), fun a ha => ⟨hn a (S.ow a ha).2.1 (S.ow a ha).1, (S1.ow a ha).2⟩⟩
end Vx
/-! # trees that are changed from outside; trees within objects -/
namespace Vx
open PySem PySem.Spec PyProof.Rows L2
section
variable {M : List Addr} {H0 G0 G H H' : Hp} {O : List Addr}
/-- a change of what is owned, by which trees grow and data come to stay -/
theorem Sep.mutgrow (S : Sep M H0 G0 G H O) {G' : Hp} {L : List Addr} (x : SameXs L H H') (hL : ∀ a ∈ L, a ∈ O) (hs : ∀ a ∈ L, H' a ≠ none) (eG : Same G G') (sG : Same G' H') (hn : ∀ b, H b ≠ none → G b = none → G' b = none)
    {O' : List Addr} (hO : ∀ b ∈ O', b ∈ O ∨ (H b = none ∧ G' b = none ∧ H' b ≠ none)) : Sep M H0 G0 G' H' O' := by
  have S1 := S.mut x hL hs
  have there : ∀ b, H b ≠ none → H' b ≠ none := fun b h => by
    by_cases hb : b ∈ L
    · exact hs b hb
    · cases q : H b with
      | none => exact absurd q h
      | some o => exact some_ne (x b o q hb)
  refine ⟨S1.base, S1.pm, sG, S.g0.trans eG, fun b hb gb => hn b (fun z => hb (S.free z)) (S.gn b hb gb), fun b hb => ?_⟩
  rcases hO b hb with h | ⟨h1, h2, h3⟩
  · obtain ⟨g, h, m⟩ := S.ow b h
    exact ⟨hn b h g, there b h, m⟩
  · exact ⟨h2, h3, .inr (S.free h1)⟩
/-- what is borrowed is none of what a callee may change -/
theorem Sep.bhide (S : Sep M H0 G0 G H O) {L : List Addr} (h : ∀ a ∈ L, a ∈ O) : Same (hideL M H0) (hideL L H) := fun b o e => by
  rw [hideL_out fun z => b_ne e S (h b z) rfl]
  exact S.bM b o e
end
theorem grown_ne {H : Hp} {L F : List Addr} {x : Addr} (s : ∀ b ∈ L, b ∈ F ∨ H b = none) (n : ∀ b ∈ F, b ≠ x) (h : H x ≠ none) : ∀ b ∈ L, b ≠ x := fun b hb z => by
  rcases s b hb with q | q
  · exact n b q z
  · exact h (z ▸ q)
theorem grown_nl {H : Hp} {L F L2 : List Addr} (s : ∀ b ∈ L, b ∈ F ∨ H b = none) (n : ∀ b ∈ F, b ∉ L2) (h : ∀ b ∈ L2, H b ≠ none) : ∀ b ∈ L, b ∉ L2 := fun b hb z => by
  rcases s b hb with q | q
  · exact n b q z
  · exact h b z q
section
variable {α : Type} {f : α → PyData} {G H : Hp} {a : Addr}
theorem rp_listAt {xs : List α} (r : Rp H (.ref a) (encL f xs)) : ∃ vs, H a = some (.lst vs) ∧ RpAll H vs (xs.map f) := by
  obtain ⟨b, vs, e, h, d⟩ := rp_list r
  cases e
  exact ⟨vs, h, d⟩
theorem OwAll.frzs : ∀ {vs : List V} {xs : List α}, RpAll G vs (xs.map f) → OwAll G H [] vs (xs.map (oF f))
  | _, [], .nil => .nil
  | _, _ :: _, .cons r t => .cons (L1 := []) (L2 := []) (.frz r) (OwAll.frzs t) (fun _ z => nomatch z)
theorem OwAll.toFrzs : ∀ {L : List Addr} {vs : List V} {xs : List α}, OwAll G H L vs (xs.map (oF f)) → RpAll G vs (xs.map f)
  | _, _, [], .nil => .nil
  | _, _, x :: xs, .cons a r _ => by
    cases a with
    | frz z => exact .cons z (OwAll.toFrzs r)
end
theorem rp_dgetI {H : Hp} {v : V} {d : PyData} {k : Int} (g : (0 : Int) ≤ k ∧ dHasT d (Int.toNat k) = true) (r : Rp H v d) : ∃ a vs u, v = .ref a ∧ H a = some (.tup vs) ∧ atI vs k = some u ∧ Rp H u (dGet d (Int.toNat k)) := by
  obtain ⟨a, vs, u, e, h, x, y⟩ := rp_dget g.2 r
  rw [Int.toNat_of_nonneg g.1] at x
  exact ⟨a, vs, u, e, h, x, y⟩
/-! ### what may be None -/
def OptF {α : Type} (G hp : Hp) (v : V) (x : Option (List α)) (f : α → PyData) : Prop := match x with
  | none => v = .non
  | some xs => ∃ a vs, v = .ref a ∧ hp a = some (.lst vs) ∧ RpAll G vs (xs.map f)
def optE {α β : Type} (x : Option α) (a : Rx β) (b : α → Rx β) : Rx β := match x with
  | none => a
  | some y => b y
theorem cW_optN {α β : Type} {a : Rx β} {b : α → Rx β} {K : β → Prop} {E : Nat → Prop} (h : cW (optE none a b) K E) : cW a K E := h
theorem cW_optS {α β : Type} {y : α} {a : Rx β} {b : α → Rx β} {K : β → Prop} {E : Nat → Prop} (h : cW (optE (some y) a b) K E) : cW (b y) K E := h
/-! ### sorted(list of ints) -/
def insI (x : Int) : List Int → List Int
  | [] => [x]
  | y :: r => if x ≤ y then x :: y :: r else y :: insI x r
def sortL (xs : List Int) : List Int := xs.foldr insI []
theorem insI_perm {x : Int} : ∀ {l : List Int}, (insI x l).Perm (x :: l)
  | [] => .refl _
  | y :: r => by
    unfold insI
    split
    · exact .refl _
    · exact ((insI_perm (l := r)).cons y).trans (.swap x y r)
theorem sortL_perm : ∀ l : List Int, (sortL l).Perm l
  | [] => .refl _
  | x :: r => (insI_perm (l := sortL r)).trans ((sortL_perm r).cons x)
theorem insI_pw {x : Int} : ∀ {l : List Int}, l.Pairwise (· ≤ ·) → (insI x l).Pairwise (· ≤ ·)
  | [], _ => List.pairwise_singleton _ _
  | y :: r, h => by
    obtain ⟨h1, h2⟩ := List.pairwise_cons.mp h
    unfold insI
    split
    · rename_i c
      refine List.pairwise_cons.mpr ⟨fun z hz => ?_, h⟩
      rcases List.mem_cons.mp hz with rfl | hz
      · exact c
      · exact Int.le_trans c (h1 z hz)
    · rename_i c
      refine List.pairwise_cons.mpr ⟨fun z hz => ?_, insI_pw h2⟩
      rcases List.mem_cons.mp ((insI_perm (l := r)).mem_iff.mp hz) with rfl | hz
      · omega
      · exact h1 z hz
theorem sortL_pw : ∀ l : List Int, (sortL l).Pairwise (· ≤ ·)
  | [] => List.Pairwise.nil
  | _ :: r => insI_pw (sortL_pw r)
theorem sortL_of {ns ks : List Int} (p : ns.Perm ks) (h : ns.Pairwise (· ≤ ·)) : ns = sortL ks :=
  (p.trans (sortL_perm ks).symm).eq_of_pairwise (fun _ _ _ _ a b => Int.le_antisymm a b) h (sortL_pw ks)
def rSortL (K : PySem.W.Frag) : List V → Hp → VK → Prop := fun xs H Q => ∃ (a : Addr) (ns : List Int), xs = [.ref a] ∧ SqL K H a (ns.map V.int) ∧ ∀ p, H p = none → Q (.ref p) (upd H p (.lst ((sortL ns).map V.int)))
theorem cr_sortL {X : Cx} {K : PySem.W.Frag} (hK : X.K = K := by rfl) : CallR X (.builtin "sorted") (rSortL K) := by
  subst hK
  intro pins s σ H vs us Q I r h
  obtain ⟨a, ns, e, hs, q⟩ := h
  refine cr_sortedI pins s σ H vs us Q I r ⟨a, ns, e, hs, fun ns' p pm pw hp => ?_⟩
  rw [sortL_of pm pw]
  exact q p hp
/-! ### trees given away, put together -/
theorem taken_ne1 {H : Hp} {F : List Addr} {a x : Addr} (s : a ∈ F ∨ H a = none) (n : ∀ b ∈ F, b ≠ x) (h : H x ≠ none) : a ≠ x := fun z => s.elim (fun q => n a q z) (fun q => h (z ▸ q))
theorem taken_ne {H : Hp} {F L2 : List Addr} {a : Addr} (s : a ∈ F ∨ H a = none) (n : ∀ b ∈ F, b ∉ L2) (h : ∀ b ∈ L2, H b ≠ none) : a ∉ L2 := fun z => s.elim (fun q => n a q z) (fun q => h a z q)
theorem taken_nl {H : Hp} {F L2 : List Addr} {a : Addr} (s : a ∈ F ∨ H a = none) (n : ∀ b ∈ F, b ∉ L2) (h : ∀ b ∈ L2, H b ≠ none) : ∀ b ∈ L2, b ≠ a := fun b hb z => taken_ne s n h (z ▸ hb)
theorem cat_lenW {α β : Type} {f : α → Dt} {g : β → Dt} {G H : Hp} {L1 L2 : List Addr} {vs ws : List V} {xs : List α} {ys : List β} (a : OwAll G H L1 vs (xs.map f)) (b : OwAll G H L2 ws (ys.map g)) (h : xs.length + ys.length ≤ 1000000) : vs.length + ws.length ≤ sizeLine := by
  rw [a.lenM, b.lenM]
  exact smallE h
theorem app_trees {α : Type} {f : α → Dt} {G H : Hp} {L1 L2 : List Addr} {vs ws : List V} {xs ys : List α} (zs : List α) (e : zs = xs ++ ys) (a : OwAll G H L1 vs (xs.map f)) (b : OwAll G H L2 ws (ys.map f)) (d : ∀ c ∈ L1, c ∉ L2) : OwAll G H (L1 ++ L2) (vs ++ ws) (zs.map f) := by
  rw [e, List.map_append]
  exact OwAll.app b a d
/-- the item of a turn is the part at its index -/
theorem item_at {vs : List V} {i : Nat} {k : Int} {x v : V} (h1 : atI vs k = some v) (hj : vs[i]? = some x) (hk : k = 0 + (i : Int)) : x = v := by
  have hl := get_len hj
  have e : atI vs k = some x := by
    unfold atI ixN
    rw [if_pos (by omega), if_pos (by omega)]
    show vs[k.toNat]? = some x
    rw [show k.toNat = i by omega, hj]
  rw [e] at h1
  exact Option.some.inj h1
theorem RpAll.at_ix {α : Type} [Inhabited α] {f : α → PyData} {G : Hp} {vs : List V} {xs : List α} {k : Int} {v : V} (d : RpAll G vs (xs.map f)) (g : -(xs.length : Int) ≤ k ∧ k < xs.length) (h : atI vs k = some v) : Rp G v (f (itD xs k)) := by
  obtain ⟨v', h1, h3⟩ := RpAll.ixD (k := k) d g
  rw [h] at h1
  cases h1
  exact h3
theorem atI_same {vs : List V} {k : Int} {v u : V} (h1 : atI vs k = some v) (h2 : atI vs k = some u) : v = u := by
  rw [h1] at h2
  exact Option.some.inj h2
theorem setL_g {α : Type} {xs : List α} {k j : Int} {y : α} (g : -(xs.length : Int) ≤ k ∧ k < xs.length) : -((setL xs j y).length : Int) ≤ k ∧ k < (setL xs j y).length := by
  have : (setL xs j y).length = xs.length := by
    unfold setL
    rw [List.length_set]
  rw [this]
  exact g
theorem Ow.atList {α : Type} {f : α → Dt} {G H : Hp} {L1 : List Addr} {b : Addr} {xs : List α} (w : Ow G H L1 (.ref b) (oL f xs)) : ∃ vs Lb, L1 = b :: Lb ∧ H b = some (.lst vs) ∧ OwAll G H Lb vs (xs.map f) ∧ ∀ c ∈ Lb, c ≠ b := by
  obtain ⟨b2, vs, Lb, e, l, h, wb, nb⟩ := Ow.toList w
  cases e
  exact ⟨vs, Lb, l, h, wb, nb⟩
theorem part_at {α : Type} {f : α → PyData} {G H : Hp} {b : Addr} {vs : List V} {xs : List α} (r : Rp G (.ref b) (encL f xs)) (s : Same G H) (h : H b = some (.lst vs)) : G b = some (.lst vs) ∧ RpAll G vs (xs.map f) := by
  obtain ⟨vs2, h2, d⟩ := rp_listAt r
  have z := (s b _ h2).symm.trans h
  cases z
  exact ⟨h2, d⟩
theorem cat_len2 {α β : Type} {f : α → PyData} {g : β → PyData} {G G2 : Hp} {vs ws : List V} {xs : List α} {ys : List β} (a : RpAll G vs (xs.map f)) (b : RpAll G2 ws (ys.map g)) (h : xs.length + ys.length ≤ 1000000) : vs.length + ws.length ≤ sizeLine := by
  rw [a.len, b.len, List.length_map, List.length_map]
  exact smallE h
end Vx
namespace Vx
open PySem PySem.Spec PyProof.Rows L2
/-! ### a[lo:hi] = b, lists, within the bounds -/
def sSliceSet (td : TE) (tl th : TO) (tv : TE) : TS := fun D σ H => tv σ H fun v H1 => td σ H1 fun x H2 => tl σ H2 fun l H3 => th σ H3 fun u H4 =>
  ∃ (a b : Addr) (xs ys : List V) (lo hi : Int), x = .ref a ∧ v = .ref b ∧ l = some lo ∧ u = some hi ∧ H4 a = some (.lst xs) ∧ H4 b = some (.lst ys) ∧ a ≠ b ∧ 0 ≤ lo ∧ lo ≤ hi ∧ hi ≤ xs.length ∧ xs.length + ys.length ≤ sizeLine ∧
    D.nx σ (upd H4 a (.lst (xs.take lo.toNat ++ ys ++ xs.drop hi.toNat)))
theorem ps_sset {X : Cx} {o lo hi value : Expr} {p2 pos' pos : Pos} {td tv : TE} {tl th : TO} (ho : PE X o td) (hl : PO X (some lo) tl) (hu : PO X (some hi) th) (hv : PE X value tv)
    (hs : swapsWith value (some (.Subscript o (.Slice (some lo) (some hi) none p2) pos')) pos.line X.env = pure false) :
    PS X (.Assign [.Subscript o (.Slice (some lo) (some hi) none p2) pos'] value pos) (sSliceSet td tl th tv) := by
  refine ⟨fun pins s σ H D I h => ?_⟩
  refine wpAny_Assign_Subscript (thn (hv.run pins s σ H _ I h) fun r s1 ⟨v, H1, I1, rv, q1⟩ => thn (ho.run pins s1 σ H1 _ I1 q1) fun u s2 ⟨x, H2, I2, rx, q2⟩ => ?_) hs
  refine wpAny_Slice (thn (hl.run pins s2 σ H2 _ I2 q2) fun vl s3 ⟨l, H3, I3, pl, q3⟩ => thn (hu.run pins s3 σ H3 _ I3 q3) fun vu s4 ⟨z, H4, I4, pu, a, b, xs, ys, i, j, ex, ev, el, ez, ha, hb, hne, h0, h1, h2, h3, q⟩ => ?_)
  subst ex ev el ez
  rw [evalPart_none]
  refine wpAny_pure ?_
  obtain rfl : u = Value.ref a := rx
  obtain rfl : r = Value.ref b := rv
  have I5 : Inv X pins σ H4 { s4 with heap := s4.heap.push { cls := .type "slice", data := .fields #[vl, vu, .none] } } := I4.kept (t' := s4.toks) fun b ob q => Heap.get?_push_of_some _ q
  have rl : RelV (.int i) vl := by
    cases pl
    exact ⟨_, rfl⟩
  have ru : RelV (.int j) vu := by
    cases pu
    exact ⟨_, rfl⟩
  exact set_slice I5 ha hb hne (Heap.IsSliceOf.new ..) rl ru h0 h1 h2 h3 fun s' I' => ⟨σ, _, I', q⟩
section
variable {G H : Hp}
theorem OwAll.split : ∀ {L : List Addr} {vs : List V} {ds : List Dt} (k : Nat), OwAll G H L vs ds → ∃ L1 L2, (∀ b ∈ L1, b ∈ L) ∧ (∀ b ∈ L2, b ∈ L) ∧ (∀ b ∈ L1, b ∉ L2) ∧ OwAll G H L1 (vs.take k) (ds.take k) ∧ OwAll G H L2 (vs.drop k) (ds.drop k)
  | L, _, _, 0, w => by
    refine ⟨[], L, by simp, fun _ z => z, by simp, ?_, ?_⟩
    · exact .nil
    · exact w
  | _, _, _, _ + 1, .nil => by
    refine ⟨[], [], by simp, by simp, by simp, ?_, ?_⟩
    · exact .nil
    · exact .nil
  | _, _, _, k + 1, .cons (L1 := La) (L2 := Lb) a r n => by
    obtain ⟨L1, L2, h1, h2, h3, w1, w2⟩ := OwAll.split k r
    refine ⟨La ++ L1, L2, fun b hb => ?_, fun b hb => List.mem_append_right _ (h2 b hb), fun b hb z => ?_, .cons a w1 (fun b hb z => n b hb (h1 b z)), w2⟩
    · rcases List.mem_append.mp hb with q | q
      · exact List.mem_append_left _ q
      · exact List.mem_append_right _ (h1 b q)
    · rcases List.mem_append.mp hb with q | q
      · exact n b q (h2 b z)
      · exact h3 b q z
/-- what a tree holds behind a slice store -/
theorem OwAll.splice {α : Type} {f : α → Dt} {L Lb : List Addr} {vs ws : List V} {xs ys : List α} {a c : Nat} (w : OwAll G H L vs (xs.map f)) (v : OwAll G H Lb ws (ys.map f)) (h : a ≤ c) (d : ∀ b ∈ Lb, b ∉ L) :
    ∃ L', (∀ b ∈ L', b ∈ L ++ Lb) ∧ OwAll G H L' (vs.take a ++ ws ++ vs.drop c) ((xs.take a ++ ys ++ xs.drop c).map f) := by
  obtain ⟨L1, L2, h1, h2, h3, w1, w2⟩ := OwAll.split a w
  obtain ⟨M1, M2, k1, k2, k3, u1, u2⟩ := OwAll.split (c - a) w2
  rw [List.drop_drop, List.drop_drop, show a + (c - a) = c by omega] at u2
  refine ⟨(L1 ++ Lb) ++ M2, fun b hb => ?_, ?_⟩
  · rcases List.mem_append.mp hb with q | q
    · rcases List.mem_append.mp q with q | q
      · exact List.mem_append_left _ (h1 b q)
      · exact List.mem_append_right _ q
    · exact List.mem_append_left _ (h2 b (k2 b q))
  · rw [List.map_append, List.map_append, List.map_take, List.map_drop]
    refine OwAll.app u2 (OwAll.app v w1 fun b hb z => d b z (h1 b hb)) fun b hb z => ?_
    rcases List.mem_append.mp hb with q | q
    · exact h3 b q (k2 b z)
    · exact d b q (h2 b (k2 b z))
def spliceL {α : Type} (xs : List α) (lo hi : Int) (ys : List α) : List α := xs.take lo.toNat ++ ys ++ xs.drop hi.toNat
theorem slc_hi {α : Type} {f : α → Dt} {L : List Addr} {vs : List V} {xs : List α} {hi : Int} (w : OwAll G H L vs (xs.map f)) (g : hi ≤ ((xs.length : Nat) : Int)) : hi ≤ ((vs.length : Nat) : Int) := by
  rw [w.lenM]
  exact g
theorem OwAll.spliceM {α : Type} {f : α → Dt} {L Lb : List Addr} {vs ws : List V} {xs ys : List α} {lo hi : Int} (w : OwAll G H L vs (xs.map f)) (v : OwAll G H Lb ws (ys.map f)) (g : (0 : Int) ≤ lo ∧ lo ≤ hi ∧ hi ≤ ((xs.length : Nat) : Int) ∧ xs.length + ys.length ≤ 1000000) (d : ∀ b ∈ Lb, b ∉ L) :
    ∃ L', (∀ b ∈ L', b ∈ L ++ Lb) ∧ OwAll G H L' (vs.take lo.toNat ++ ws ++ vs.drop hi.toNat) ((spliceL xs lo hi ys).map f) := OwAll.splice w v (by omega) d
end
end Vx
/-! # fourth part: reckoning with functions that may refuse -/
namespace Vx
open PySem PySem.Spec PyProof.Rows L2
section
variable {α β σ ρ τ : Type}
theorem bind_ok (a : α) (f : α → Rx β) : (Rx.ok a).bind f = f a := rfl
theorem bind_er (e : Nat) (f : α → Rx β) : (Rx.er e : Rx α).bind f = .er e := rfl
theorem grd_pos {p : Prop} {dp : Decidable p} {m : Rx α} (h : p) : grd p m = m := if_pos h
theorem bnd_eq (a : α) (f : α → Rx β) : bnd a f = f a := rfl
theorem noEr_ok (a : α) : noEr (.ok a : Rx α) = .ok a := rfl
theorem tryR_ok {cs : List Nat} (a : α) (f : α → Rx β) (g : Nat → Rx β) : tryR (.ok a) cs f g = f a := rfl
theorem tryR_er {cs : List Nat} {e : Nat} (h : e ∈ cs) (f : α → Rx β) (g : Nat → Rx β) : tryR (.er e) cs f g = g e := if_pos h
theorem aft_go (s : σ) (kr : ρ → Rx τ) (k : σ → Rx τ) : (Lp.go s : Lp σ ρ).aft kr k = k s := rfl
theorem aft_rt (r : ρ) (kr : ρ → Rx τ) (k : σ → Rx τ) : (Lp.rt r : Lp σ ρ).aft kr k = kr r := rfl
/-- gives a value of which P holds -/
def Gv (m : Rx α) (P : α → Prop) : Prop := ∃ v, m = .ok v ∧ P v
theorem Gv.ok {a : α} {P : α → Prop} (h : P a) : Gv (.ok a) P := ⟨a, rfl, h⟩
theorem Gv.of_eq {m : Rx α} {a : α} {P : α → Prop} (e : m = .ok a) (h : P a) : Gv m P := ⟨a, e, h⟩
theorem Gv.bind {m : Rx α} {f : α → Rx β} {P : α → Prop} {Q : β → Prop} (h : Gv m P) (k : ∀ v, P v → Gv (f v) Q) : Gv (m.bind f) Q := by
  obtain ⟨v, rfl, p⟩ := h
  exact k v p
theorem Gv.bind_eq {m : Rx α} {f : α → Rx β} {a : α} {Q : β → Prop} (h : m = .ok a) (k : Gv (f a) Q) : Gv (m.bind f) Q := by
  subst h
  exact k
theorem Gv.grd {p : Prop} {dp : Decidable p} {m : Rx α} {Q : α → Prop} (h : p) (k : Gv m Q) : Gv (Vx.grd p m) Q := by
  rw [grd_pos h]
  exact k
theorem Gv.bnd {a : α} {f : α → Rx β} {Q : β → Prop} (k : ∀ x, x = a → Gv (f x) Q) : Gv (Vx.bnd a f) Q := k a rfl
theorem Gv.ite {p : Prop} {dp : Decidable p} {a b : Rx α} {Q : α → Prop} (h1 : p → Gv a Q) (h2 : ¬ p → Gv b Q) : Gv (if p then a else b) Q := by
  split
  · exact h1 ‹_›
  · exact h2 ‹_›
theorem Gv.pos {p : Prop} {dp : Decidable p} {a b : Rx α} {Q : α → Prop} (h : p) (k : Gv a Q) : Gv (if p then a else b) Q := by rwa [if_pos h]
theorem Gv.neg {p : Prop} {dp : Decidable p} {a b : Rx α} {Q : α → Prop} (h : ¬ p) (k : Gv b Q) : Gv (if p then a else b) Q := by rwa [if_neg h]
theorem Gv.imp {m : Rx α} {P Q : α → Prop} (h : Gv m P) (k : ∀ v, P v → Q v) : Gv m Q := by
  obtain ⟨v, e, p⟩ := h
  exact ⟨v, e, k v p⟩
theorem Gv.noEr {m : Rx α} {P : α → Prop} (h : Gv m P) : Gv (Vx.noEr m) P := by
  obtain ⟨v, rfl, p⟩ := h
  exact ⟨v, rfl, p⟩
theorem Gv.tryOk {m : Rx α} {cs : List Nat} {f : α → Rx β} {g : Nat → Rx β} {P : α → Prop} {Q : β → Prop} (h : Gv m P) (k : ∀ v, P v → Gv (f v) Q) : Gv (tryR m cs f g) Q := by
  obtain ⟨v, rfl, p⟩ := h
  exact k v p
theorem Gv.tryEr {m : Rx α} {cs : List Nat} {e : Nat} {f : α → Rx β} {g : Nat → Rx β} {Q : β → Prop} (h : m = .er e) (hm : e ∈ cs) (k : Gv (g e) Q) : Gv (tryR m cs f g) Q := by
  subst h
  rw [tryR_er hm]
  exact k
theorem Gv.get {m : Rx α} {a : α} (h : Gv m (fun v => v = a)) : m = .ok a := by
  obtain ⟨v, e, rfl⟩ := h
  exact e
theorem Gv.eq {m : Rx α} {P : α → Prop} (h : Gv m P) : ∃ v, m = .ok v ∧ P v := h
/-- a loop that keeps P -/
theorem Gv.forS {P : Nat → σ → Prop} {xs : List α} {s : σ} {f : σ → α → Rx σ} (h0 : P 0 s) (hs : ∀ i x s, xs[i]? = some x → P i s → Gv (f s x) (P (i + 1))) : Gv (Vx.forS xs s f) (P xs.length) := by
  induction xs generalizing s P with
  | nil => exact .ok h0
  | cons x r ih =>
    refine Gv.bind (hs 0 x s rfl h0) fun s' p => ?_
    exact ih (P := fun i => P (i + 1)) p fun i y s hy q => hs (i + 1) y s (by simpa using hy) q
theorem Gv.forR {P : Nat → σ → Prop} {xs : List α} {s : σ} {f : σ → α → Rx (Lp σ ρ)} (h0 : P 0 s) (hs : ∀ i x s, xs[i]? = some x → P i s → Gv (f s x) (fun l => ∃ s', l = .go s' ∧ P (i + 1) s')) : Gv (Vx.forR xs s f) (fun l => ∃ s', l = .go s' ∧ P xs.length s') := by
  induction xs generalizing s P with
  | nil => exact .ok ⟨s, rfl, h0⟩
  | cons x r ih =>
    refine Gv.bind (hs 0 x s rfl h0) ?_
    rintro _ ⟨s', rfl, p⟩
    exact ih (P := fun i => P (i + 1)) p fun i y s hy q => hs (i + 1) y s (by simpa using hy) q
/-- a loop that carries nothing -/
theorem forR_unit {xs : List α} {f : Unit → α → Rx (Lp Unit ρ)} (h : ∀ x ∈ xs, f () x = .ok (.go ())) : Vx.forR xs () f = .ok (.go ()) := by
  induction xs with
  | nil => rfl
  | cons x r ih =>
    show (f () x).bind _ = _
    rw [h x List.mem_cons_self]
    exact ih fun y hy => h y (List.mem_cons_of_mem _ hy)
theorem forS_pure {xs : List α} {s : σ} {f : σ → α → Rx σ} {g : σ → α → σ} (h : ∀ s x, x ∈ xs → f s x = .ok (g s x)) : Vx.forS xs s f = .ok (xs.foldl g s) := by
  induction xs generalizing s with
  | nil => rfl
  | cons x r ih =>
    show (f s x).bind _ = _
    rw [h s x List.mem_cons_self]
    exact ih fun s y hy => h s y (List.mem_cons_of_mem _ hy)
theorem mapA_pure {xs : List α} {acc : List β} {f : α → Rx β} {g : α → β} (h : ∀ x ∈ xs, f x = .ok (g x)) (hl : acc.length + xs.length ≤ 1000000) : mapA xs acc f = .ok (acc ++ xs.map g) := by
  induction xs generalizing acc with
  | nil => simp [mapA]
  | cons x r ih =>
    rw [List.length_cons] at hl
    unfold mapA
    rw [grd_pos (by omega), h x List.mem_cons_self, bind_ok, ih (fun y hy => h y (List.mem_cons_of_mem _ hy)) (by rw [List.length_append, List.length_cons, List.length_nil]; omega)]
    simp
theorem mapA_pure0 {xs : List α} {f : α → Rx β} {g : α → β} (h : ∀ x ∈ xs, f x = .ok (g x)) (hl : xs.length ≤ 1000000) : mapA xs [] f = .ok (xs.map g) := by
  rw [mapA_pure h (by simpa using hl)]
  rfl
theorem mapF_pure {xs : List α} {acc : List β} {f : α → Rx (Option β)} {g : α → Option β} (h : ∀ x ∈ xs, f x = .ok (g x)) (hl : acc.length + xs.length ≤ 1000000) : mapF xs acc f = .ok (acc ++ xs.filterMap g) := by
  induction xs generalizing acc with
  | nil => simp [mapF]
  | cons x r ih =>
    rw [List.length_cons] at hl
    unfold mapF
    rw [grd_pos (by omega), h x List.mem_cons_self, bind_ok]
    cases e : g x with
    | none =>
      show mapF r acc f = _
      rw [ih (fun y hy => h y (List.mem_cons_of_mem _ hy)) (by omega), List.filterMap_cons, e]
    | some z =>
      show mapF r (acc ++ [z]) f = _
      rw [ih (fun y hy => h y (List.mem_cons_of_mem _ hy)) (by rw [List.length_append, List.length_cons, List.length_nil]; omega), List.filterMap_cons, e]
      simp
/-- a while that ends: m falls -/
theorem Gv.whileR {P : σ → Prop} {R : σ → Prop} (m : σ → Nat) {f : σ → Rx (Lp σ ρ)} (hs : ∀ s, P s → Gv (f s) (fun l => (∃ s', l = .go s' ∧ P s' ∧ m s' < m s) ∨ ∃ s', l = .bk s' ∧ R s')) : ∀ {n : Nat} {s : σ}, P s → m s < n → Gv (Vx.whileR n s f) (fun l => ∃ s', l = .go s' ∧ R s') := by
  intro n
  induction n with
  | zero => intro s _ h; exact absurd h (Nat.not_lt_zero _)
  | succ n ih =>
    intro s p h
    refine Gv.bind (hs s p) ?_
    rintro _ (⟨s', rfl, p', l⟩ | ⟨s', rfl, r⟩)
    · exact ih p' (by omega)
    · exact .ok ⟨s', rfl, r⟩
end
/-- a loop that may return -/
theorem Gv.forRR {α σ ρ : Type} {P : Nat → σ → Prop} {Q : ρ → Prop} {xs : List α} {s : σ} {f : σ → α → Rx (Lp σ ρ)} (h0 : P 0 s) (hs : ∀ i x s, xs[i]? = some x → P i s → Gv (f s x) (fun l => (∃ s', l = .go s' ∧ P (i + 1) s') ∨ ∃ r, l = .rt r ∧ Q r)) : Gv (Vx.forR xs s f) (fun l => (∃ s', l = .go s' ∧ P xs.length s') ∨ ∃ r, l = .rt r ∧ Q r) := by
  induction xs generalizing s P with
  | nil => exact .ok (.inl ⟨s, rfl, h0⟩)
  | cons x r ih =>
    refine Gv.bind (hs 0 x s rfl h0) ?_
    rintro _ (⟨s', rfl, p⟩ | ⟨r, rfl, q⟩)
    · exact ih (P := fun i => P (i + 1)) p fun i y s hy q => hs (i + 1) y s (by simpa using hy) q
    · exact .ok (.inr ⟨r, rfl, q⟩)
theorem rng_mem {lo x : Int} {n : Nat} (h : x ∈ rng lo n) : lo ≤ x ∧ x < lo + n := by
  unfold rng at h
  obtain ⟨j, hj, rfl⟩ := List.mem_map.mp h
  have := List.mem_range.mp hj
  omega
theorem rng_at {lo x : Int} {n i : Nat} (h : (rng lo n)[i]? = some x) : x = lo + i ∧ i < n := by
  have hl := get_len h
  rw [rng_len] at hl
  rw [rng_get hl] at h
  exact ⟨(Option.some.inj h).symm, hl⟩
end Vx
namespace Vx
open PySem PySem.Spec PyProof.Rows L2
/-! ### the head's facts -/
abbrev Frg : Type := PySem.W.Frag
abbrev FaK : Type := Frg → Bool
abbrev AlK : Type := Bool × List He.FnW × List (Option (List (Option (Str × Int))))
def obsK (fa : List (List FaK)) (fn : List He5.DefA) (ts : List He.Tab) (K : Frg) : AlK :=
  ((fa.all fun l => l.all fun f => f K) && fn.all fun d => d.ok K, fn.map fun d => He5.fnA K (d.at_ K), ts.map fun t => He.dicW K (t.1 K))
def valK (fn : List He5.DefA) (ts : List He.Tab) (w : World) : AlK := (true, fn.map He5.DefA.val, ts.map fun t => some (He.keysIn w.params t.2))
def SaysK (fa : List (List FaK)) (fn : List He5.DefA) (ts : List He.Tab) (w : World) (K : Frg) : Prop := obsK fa fn ts K = valK fn ts w
/-- what the names reach in n steps; what has been met is a number's bits -/
def grow1 : List Addr → Nat → List Addr → Nat × List Addr
  | [], m, nw => (m, nw)
  | a :: r, m, nw => match Nat.beq (Nat.land (Nat.shiftRight m a) 1) 1 with
    | true => grow1 r m nw
    | false => HandSHeadRun.frNat (Nat.lor m (Nat.shiftLeft 1 a)) fun m' => grow1 r m' (a :: nw)
def refsG (g : Addr → Option Obj) (a : Addr) : List Addr := match g a with
  | some o => He.refsD o
  | none => []
def asB (g : Addr → Option Obj) : Nat → Nat → List Addr → List Addr
  | 0, _, fr => fr
  | n + 1, m, fr => match grow1 (fr.flatMap (refsG g)) m [] with
    | (m', nw) => fr ++ asB g n m' nw
def asK (g : Addr → Option Obj) (n : Nat) : List Addr := asB g n (Nat.shiftLeft 1 mainGlobals) [mainGlobals]
def obsKG (n : Nat) (fa : List (List FaK)) (fn : List He5.DefA) (ts : List He.Tab) (g : Addr → Option Obj) : AlK := obsK fa fn ts (He.frG g (asK g n))
def hookK (n : Nat) (fa : List (List FaK)) (fn : List He5.DefA) (ts : List He.Tab) : PySem.W.Hook where
  α := AlK
  obs := fun s => obsKG n fa fn ts s.heap.get?
  val := fun w => valK fn ts w
  says := fun w h => ∃ K : Frg, K.In h ∧ SaysK fa fn ts w K
  of := fun _ _ e => ⟨_, He.frG_in, e⟩
  keeps := fun _ _ _ ⟨K, hK, c⟩ k => ⟨K, PySem.W.Frag.In.keeps hK k, c⟩
theorem obsKG_eq {n : Nat} {fa : List (List FaK)} {fn : List He5.DefA} {ts : List He.Tab} {g : Addr → Option Obj} {s : Shared} (h : ∀ a, g a = s.heap.get? a) : obsKG n fa fn ts g = (hookK n fa fn ts).obs s := by
  have e : g = s.heap.get? := funext h
  rw [e] <;> rfl
section
variable {fa : List (List FaK)} {fn : List He5.DefA} {ts : List He.Tab} {w : World} {K : Frg}
theorem SaysK.fact (c : SaysK fa fn ts w K) (i j : Nat) {l : List FaK} {f : FaK} (hl : fa[i]? = some l := by rfl) (h : l[j]? = some f := by rfl) : f K = true := by
  have c1 := (He.ba (show ((fa.all fun l => l.all fun f => f K) && fn.all fun d => d.ok K) = true from congrArg (fun z : AlK => z.1) c)).1
  have c2 := List.all_eq_true.mp c1 l (List.mem_of_getElem? hl)
  exact List.all_eq_true.mp c2 f (List.mem_of_getElem? h)
theorem SaysK.def_ (c : SaysK fa fn ts w K) (i : Nat) {d : He5.DefA} (h : fn[i]? = some d := by rfl) : ∃ fd, FunD K d.name d.qual d.params d.body d.scope (d.dvs K) (d.kws K) (d.at_ K) fd := by
  have c2 := (He.ba (show ((fa.all fun l => l.all fun f => f K) && fn.all fun d => d.ok K) = true from congrArg (fun z : AlK => z.1) c)).2
  have e : fn.map (fun d => He5.fnA K (d.at_ K)) = fn.map He5.DefA.val := congrArg (fun z : AlK => z.2.1) c
  have e2 : (fn.map fun d => He5.fnA K (d.at_ K))[i]? = (fn.map He5.DefA.val)[i]? := by rw [e]
  rw [List.getElem?_map, List.getElem?_map, h] at e2
  exact He5.DefA.funD (Option.some.inj e2) (List.all_eq_true.mp c2 d (List.mem_of_getElem? h))
theorem SaysK.tab (c : SaysK fa fn ts w K) (i : Nat) {t : He.Tab} (h : ts[i]? = some t := by rfl) : He.dicW K (t.1 K) = some (He.keysIn w.params t.2) := by
  have e : ts.map (fun t => He.dicW K (t.1 K)) = ts.map fun t => some (He.keysIn w.params t.2) := congrArg (fun z : AlK => z.2.2) c
  have e2 : (ts.map fun t => He.dicW K (t.1 K))[i]? = (ts.map fun t => some (He.keysIn w.params t.2))[i]? := by rw [e]
  rw [List.getElem?_map, List.getElem?_map, h] at e2
  exact Option.some.inj e2
end
/-! ### facts -/
/-- a def's keyword default, if it is an object -/
def kdA (f : Frg → Addr) (x : Str) (K : Frg) : Addr := match K.lookup (f K) with
  | some ⟨_, _, .func fd, _⟩ => (match fd.kwdefaults with
    | .ref D => (match PySem.W.nsIn K D x with
      | some (some (.ref a)) => a
      | _ => 0)
    | _ => 0)
  | _ => 0
/-- a property's def -/
def prA (C m : Str) (K : Frg) : Addr := match PySem.W.recIn K (He.ma K (He.ga K C) m) "property" with
  | some (.ref f :: _) => f
  | _ => 0
def prpB (C m : Str) : FaK := fun K => He.eqO (PySem.W.findIn K (.ref (He.ga K C)) m) (some (some (.ref (He.ma K (He.ga K C) m)))) &&
  (He.eqO (PySem.W.specialIn K (.ref (He.ma K (He.ga K C) m)) "__get__") (some (some (.builtin "property.__get__"))) &&
  (decide (PySem.W.takesIn K (.ref (He.ma K (He.ga K C) m)) = some true) && (match PySem.W.recIn K (He.ma K (He.ga K C) m) "property" with
    | some (.ref _ :: _) => true
    | _ => false)))
theorem prpB_ok {K : Frg} {C m : Str} (h : prpB C m K = true) : PySem.W.findIn K (.ref (He.ga K C)) m = some (some (.ref (He.ma K (He.ga K C) m))) ∧ PySem.W.specialIn K (.ref (He.ma K (He.ga K C) m)) "__get__" = some (some (.builtin "property.__get__")) ∧
    PySem.W.takesIn K (.ref (He.ma K (He.ga K C) m)) = some true ∧ ∃ rs, PySem.W.recIn K (He.ma K (He.ga K C) m) "property" = some (.ref (prA C m K) :: rs) := by
  obtain ⟨h1, h⟩ := He.ba h
  obtain ⟨h2, h⟩ := He.ba h
  obtain ⟨h3, h4⟩ := He.ba h
  refine ⟨He.eqO_ok h1, He.eqO_ok h2, of_decide_eq_true h3, ?_⟩
  unfold prA
  split at h4
  · rename_i f r e
    exact ⟨r, by rw [e]⟩
  · cases h4
def isiB (C : Str) : FaK := fun K => He.eqO (PySem.W.findIn K (.ref (He.ga K C)) "__class__") (some (some (.builtin "object.__class__"))) && (He.eqO (PySem.W.specialIn K (.builtin "object.__class__") "__get__") (some (some (.builtin "getset_descriptor.__get__"))) &&
  (decide (PySem.W.takesIn K (.builtin "object.__class__") = some true) && decide (PySem.W.mroIn K (He.ga K C) (.type "object") = some true)))
theorem isiB_ok {K : Frg} {C : Str} (h : isiB C K = true) : IsiC K (He.ga K C) := by
  obtain ⟨h1, h⟩ := He.ba h
  obtain ⟨h2, h⟩ := He.ba h
  obtain ⟨h3, h4⟩ := He.ba h
  exact ⟨He.eqO_ok h1, He.eqO_ok h2, of_decide_eq_true h3, of_decide_eq_true h4⟩
def excCB (C : Str) : FaK := fun K => He.eqO (PySem.W.findIn K (.ref (He.ga K C)) "__getattribute__") (some (some (.builtin "BaseException.__getattribute__"))) && (He.eqO (PySem.W.findIn K (.ref (He.ga K C)) "__getattr__") (some none) &&
  (decide (PySem.W.subIn K (.ref (He.ga K C)) (.type "BaseException") = some true) && (PySem.W.hasDictIn K (He.ga K C) && isiB C K)))
theorem excCB_ok {K : Frg} {C : Str} (h : excCB C K = true) : ExcC K (He.ga K C) := by
  obtain ⟨h1, h⟩ := He.ba h
  obtain ⟨h2, h⟩ := He.ba h
  obtain ⟨h3, h⟩ := He.ba h
  obtain ⟨h4, h⟩ := He.ba h
  obtain ⟨h5, h⟩ := He.ba h
  obtain ⟨h6, h⟩ := He.ba h
  obtain ⟨h7, h8⟩ := He.ba h
  exact ⟨He.eqO_ok h1, He.eqO_ok h2, of_decide_eq_true h3, h4, He.eqO_ok h5, He.eqO_ok h6, of_decide_eq_true h7, of_decide_eq_true h8⟩
def kitFB (D : Str) (c : Frg → Value) (b : Bool) : FaK := fun K => decide (PySem.W.kitOne K (.ref (He.ga K D)) (c K) = some b)
theorem kitFB_ok {K : Frg} {D : Str} {c : Frg → Value} {b : Bool} (h : kitFB D c b K = true) : PySem.W.kitOne K (.ref (He.ga K D)) (c K) = some b := of_decide_eq_true h
/-- a tuple of these -/
def tupK (a : Frg → Addr) (vs : List He.Dv) : FaK := fun K => match K.lookup (a K) with
  | some ⟨.type c, none, .seq its _, _⟩ => decide (c = "tuple") && (decide (its.size ≤ sizeLine) && He.relAll (vs.map (He.Dv.v K)) its.toList)
  | _ => false
theorem tupK_at {K : Frg} {a : Frg → Addr} {vs : List He.Dv} (h : tupK a vs K = true) : ∃ its n sl, K.lookup (a K) = some ⟨.type "tuple", none, .seq its n, sl⟩ ∧ its.size ≤ sizeLine ∧ Vals (vs.map (He.Dv.v K)) its.toList := by
  unfold tupK at h
  cases q : K.lookup (a K) with
  | none =>
    rw [q] at h
    cases h
  | some o =>
    obtain ⟨oc, od, dt, osl⟩ := o
    rw [q] at h
    cases oc with
    | type c =>
      cases od with
      | none =>
        cases dt with
        | seq its n =>
          obtain ⟨h1, h2⟩ := He.ba (show (decide (c = "tuple") && (decide (its.size ≤ sizeLine) && He.relAll (vs.map (He.Dv.v K)) its.toList)) = true from h)
          obtain ⟨h3, h4⟩ := He.ba h2
          refine ⟨its, n, osl, ?_, of_decide_eq_true h3, He.relAll_ok h4⟩
          rw [of_decide_eq_true h1]
        | _ => cases h
      | some d => cases dt <;> cases h
    | _ => cases od <;> cases dt <;> cases h
theorem tupK_ok {K : Frg} {a : Frg → Addr} {vs : List He.Dv} (h : tupK a vs K = true) (H : Hp) : SqT K H (a K) (vs.map (He.Dv.v K)) := by
  obtain ⟨its, n, sl, e, h1, h2⟩ := tupK_at h
  exact .inr ⟨_, its, n, e, rfl, rfl, h1, h2⟩
theorem tupK_cls {K : Frg} {a : Frg → Addr} {vs : List He.Dv} (h : tupK a vs K = true) : ∃ o, K.lookup (a K) = some o ∧ o.cls = .type "tuple" ∧ o.dict = none := by
  obtain ⟨its, n, sl, e, h1, h2⟩ := tupK_at h
  exact ⟨_, e, rfl, rfl⟩
/-- the i-th item of a tuple -/
def itK (a : Frg → Addr) (i : Nat) (K : Frg) : Addr := match K.lookup (a K) with
  | some ⟨_, _, .seq its _, _⟩ => (match its.toList[i]? with
    | some (.ref b) => b
    | _ => 0)
  | _ => 0
/-- the value of a key of text -/
def ikK (a : Frg → Addr) (k : Str) (K : Frg) : Addr := match PySem.W.nsIn K (a K) k with
  | some (some (.ref b)) => b
  | _ => 0
/-! ### dicts of ints -/
def eiB : List (Int × Int) → List DictEntry → Bool
  | [], [] => true
  | (k, v) :: r, ⟨h, .int k2 _, .int v2 _⟩ :: es => decide (h = hashInt k) && (decide (k2 = k) && (decide (v2 = v) && eiB r es))
  | _, _ => false
theorem eiB_ok : ∀ {kvs : List (Int × Int)} {es : List DictEntry}, eiB kvs es = true → EI kvs es
  | [], [], _ => .nil
  | [], _ :: _, h => by cases h
  | _ :: _, [], h => by cases h
  | (k, v) :: r, ⟨h0, kk, vv⟩ :: es, h => by
    cases kk with
    | int k2 t =>
      cases vv with
      | int v2 u =>
        obtain ⟨h1, h⟩ := He.ba (show (decide (h0 = hashInt k) && (decide (k2 = k) && (decide (v2 = v) && eiB r es))) = true from h)
        obtain ⟨h2, h⟩ := He.ba h
        obtain ⟨h3, h⟩ := He.ba h
        rw [of_decide_eq_true h1, of_decide_eq_true h2, of_decide_eq_true h3]
        exact .cons (eiB_ok h)
      | _ => cases h
    | _ => cases vv <;> cases h
def kdiB (a : Frg → Addr) (kvs : List (Int × Int)) : FaK := fun K => match K.lookup (a K) with
  | some ⟨.type c, none, .dict es _, sl⟩ => decide (c = "dict") && (sl.isEmpty && (!(a K == sysModules) && eiB kvs es.toList))
  | _ => false
theorem kdiB_ok {K : Frg} {a : Frg → Addr} {kvs : List (Int × Int)} (h : kdiB a kvs K = true) : KDI K (a K) kvs := by
  unfold kdiB at h
  cases q : K.lookup (a K) with
  | none =>
    rw [q] at h
    cases h
  | some o =>
    obtain ⟨oc, od, dt, osl⟩ := o
    rw [q] at h
    cases oc with
    | type c =>
      cases od with
      | none =>
        cases dt with
        | dict es n =>
          obtain ⟨h1, h2⟩ := He.ba (show (decide (c = "dict") && (osl.isEmpty && (!(a K == sysModules) && eiB kvs es.toList))) = true from h)
          obtain ⟨h3, h4⟩ := He.ba h2
          obtain ⟨h5, h6⟩ := He.ba h4
          refine ⟨es, n, ?_, ?_, eiB_ok h6⟩
          · rw [q, of_decide_eq_true h1, Array.isEmpty_iff.mp h3]
          · cases y : a K == sysModules with
            | false => rfl
            | true =>
              rw [y] at h5
              cases h5
        | _ => cases h
      | some b => cases dt <;> cases h
    | _ => cases od <;> cases dt <;> cases h
/-! ### dicts with text keys: the values -/
def valsL (K : Frg) (vs : List He.Dv) (es : List DictEntry) : Bool := He.relAll (vs.map (He.Dv.v K)) (es.map (·.val))
def dvB (a : Frg → Addr) (vs : List He.Dv) : FaK := fun K => match K.lookup (a K) with
  | some ⟨_, _, .dict es _, _⟩ => valsL K vs es.toList
  | _ => false
theorem dic_of {K : Frg} {P : Params} {a : Frg → Addr} {ks : List Str} {vs : List He.Dv} (h : He.dicW K (a K) = some (He.keysIn P ks)) (hv : dvB a vs K = true) :
    ∃ es n, K.lookup (a K) = some ⟨.type "dict", none, .dict es n, #[]⟩ ∧ es.toList.map He.keyOf = He.keysIn P ks ∧ Vals (vs.map (He.Dv.v K)) (es.toList.map (·.val)) := by
  unfold He.dicW at h
  unfold dvB at hv
  cases q : K.lookup (a K) with
  | none =>
    rw [q] at h
    cases h
  | some o =>
    obtain ⟨oc, od, dt, osl⟩ := o
    rw [q] at h hv
    cases oc with
    | type c =>
      cases od with
      | none =>
        cases dt with
        | dict es n =>
          have h1 : (match decide (c = "dict") && (osl.isEmpty && !(a K == sysModules)) with
            | true => some (es.toList.map He.keyOf)
            | false => none) = some (He.keysIn P ks) := h
          cases z : decide (c = "dict") && (osl.isEmpty && !(a K == sysModules)) with
          | false =>
            rw [z] at h1
            cases h1
          | true =>
            rw [z] at h1
            obtain ⟨z1, z2⟩ := He.ba z
            obtain ⟨z3, z4⟩ := He.ba z2
            refine ⟨es, n, ?_, Option.some.inj h1, He.relAll_ok hv⟩
            rw [of_decide_eq_true z1, Array.isEmpty_iff.mp z3]
        | _ => cases h
      | some b => cases dt <;> cases h
    | _ => cases od <;> cases dt <;> cases h
theorem fnD_ex {K : Frg} {x q : Str} {args : Arguments} {body : List Stmt} {sc : Scope} {kws : List (Str × V)} {f : Addr} {fd : FuncData} (F : FunD K x q args body sc [] kws f fd) : ∃ (kV doc : Value) (pm : Value) (an : Option Addr) (cdv ct : Value), fd = PySem.W.fnOf x q args body sc .none kV doc pm an cdv ct := by
  obtain ⟨oc, od, dV, kV, doc, pm, an, cdv, ct, osl, e, l, c, hd, _⟩ := F.ex
  rcases hd with ⟨_, e2⟩ | ⟨e2, _⟩
  · subst e2
    exact ⟨_, _, _, _, _, _, e⟩
  · exact absurd rfl e2
/-! ### positional defaults -/
theorem fnD_exP {K : PySem.W.Frag} {x q : Str} {args : Arguments} {body : List Stmt} {sc : Scope} {dvs : List V} {kws : List (Str × V)} {f : Addr} {fd : FuncData} (F : FunD K x q args body sc dvs kws f fd) : ∃ (dV kV doc : Value) (pm : Value) (an : Option Addr) (cdv ct : Value), fd = PySem.W.fnOf x q args body sc dV kV doc pm an cdv ct := by
  obtain ⟨oc, od, dV, kV, doc, pm, an, cdv, ct, osl, e, l, c, hd, _⟩ := F.ex
  exact ⟨_, _, _, _, _, _, _, e⟩
theorem Bnd.dfl {K : PySem.W.Frag} {x qual : Str} {params : Arguments} {body : List Stmt} {scope : Scope} {dvs : List V} {kws : List (Str × V)} {f : Addr} {fd : FuncData} {ps : List Str} (F : FunD K x qual params body scope dvs kws f fd) (n j : Nat) (hd : dvs ≠ [])
    (h : ∀ (T : Addr) (kV doc pm : Value) (an : Option Addr) (cdv ct : Value) (us its : List Value), us.length = n → its.length = dvs.length →
      ∃ k, bindArgs (PySem.W.fnOf x qual params body scope (.ref T) kV doc pm an cdv ct) ⟨us, []⟩ = seqItems? (.ref T) >>= k ∧ k (some its.toArray) = pure (ps.zip (us ++ its.drop j))) : Bnd K fd ps n [] (fun vs _ => vs ++ dvs.drop j) := by
  obtain ⟨oc, od, dV, kV, doc, pm, an, cdv, ct, osl, rfl, lk, hcd, hD, hK⟩ := F.ex
  rcases hD with ⟨e, _⟩ | ⟨_, T, o, its, m, rfl, lT, oT, rT⟩
  · exact absurd e hd
  · refine ⟨fun s us ws vs zs X hv hz rv rz => ⟨us ++ its.drop j, ?_, rv.append (rT.drop j)⟩⟩
    have hw : ws = [] := by
      have := rz.length
      rw [hz] at this
      exact List.eq_nil_of_length_eq_zero this.symm
    subst hw
    obtain ⟨k, e1, e2⟩ := h T kV doc pm an cdv ct us its (rv.length.symm.trans hv) rT.length.symm
    refine BindsTo.of_looks fun M => ?_
    show PySem.W.Looks M s.heap (bindArgs _ ⟨us, []⟩) _
    rw [e1]
    exact looks_items X lT oT (.of_pure e2)
/-! ### the law -/
theorem walkK {l : PySem.W.OpenLaw} {n k : Nat} {q : Program} {loose : List Str} {XP : (Str → Option Value) → Heap → Prop} {YP : World → Heap → Prop} {d : DefRec} {x : Str} (hn : l.most = some n) (hn2 : n ≤ sizeLine) (hdf : d.params.defaults = []) (room : Room k callerA)
    (F : ∀ (w : World) (mg : Str → Option Value) (fa : Addr) (h : Heap), YP w h → h.Ns mainGlobals mg → mg d.name = some (.ref fa) →
      ∃ (K : Frg) (fd : FuncData), K.In h ∧ (∀ (s : Shared) (u : Value), BindsTo s fd ⟨[u], []⟩ [(x, u)]) ∧ ∀ base : Heap, K.In base → base.Ns mainGlobals mg → FnG l.prog w K mg base CX0 k fa fd [x] (fun vs H Q _ => ∃ (a : Addr) (ns : List Int), vs = [.ref a] ∧ SqL K H a (ns.map V.int) ∧ ns.length ≤ n ∧ ∀ H', Q (.bl true) H')) :
    PySem.W.WalkO q loose XP YP l.row.toRowW d [] (fun f vs => PySem.call f vs) := by
  refine Att.attach_call hn hdf ?_
  intro w s₀ s₁ mg mb fa o pm cd doc a vs ns G Y _ _ _ hmg script whole short gens
  obtain ⟨K, fd, kin, bind, prom⟩ := F w mg fa _ Y G.T.g hmg
  obtain ⟨H, base, seq, kinB, nsB, env, fin⟩ := law_start (P := l.prog) (w := w) kin G.T.g G.T.b G.T.builtins G.T.nolimit gens script whole (Nat.le_trans short hn2)
  refine codeAny_mono ((prom base kinB nsB).run callerA [] s₁ H ⟨[.ref a], []⟩ [.ref a] [.ref a] (fun v _ => v = .bl true) (fun _ _ _ => False) ⟨room, rfl⟩ env (bind s₁ (.ref a)) (.cons rfl .nil) ⟨a, ns, rfl, seq, short, fun _ => rfl⟩) ?_
  intro r s2 out
  cases r with
  | error e => exact out.elim
  | ok flow =>
    cases flow with
    | ret u =>
      obtain ⟨⟨v, rv, z⟩, h1, h2, h3⟩ := fin (fun v => v = .bl true) u s2 out
      subst z
      obtain rfl : u = Value.bool true := rv
      exact ⟨rfl, h1, h2, h3⟩
    | next => exact out.elim
    | brk => exact out.elim
    | cont => exact out.elim
end Vx
namespace Vx
open PySem PySem.Spec PyProof.Rows L2
theorem es_of {P : Params} : ∀ {kvs : List (Str × Int)} {es : List DictEntry}, es.map He.keyOf = He.keysIn P (kvs.map (·.1)) → Vals (kvs.map fun q => V.int q.2) (es.map (·.val)) → ES P kvs es
  | [], [], _, _ => .nil
  | [], _ :: _, h, _ => by cases h
  | _ :: _, [], h, _ => by cases h
  | (k, v) :: r, e :: es, h, hv => by
    have h1 : He.keyOf e :: es.map He.keyOf = some (k, PyData.keyHash P k) :: He.keysIn P (r.map (·.1)) := h
    injection h1 with h2 h3
    obtain ⟨hh, kk, vv⟩ := e
    cases hv with
    | cons r1 r2 =>
      obtain ⟨u, e1⟩ := r1
      have e1 : vv = .int v u := e1
      subst e1
      unfold He.keyOf at h2
      cases kk with
      | str x t =>
        have h4 := Option.some.inj h2
        obtain ⟨h5, h6⟩ := Prod.mk.inj h4
        subst h5
        exact .cons h6 (es_of h3 r2)
      | _ => cases h2
theorem kds_of {K : Frg} {w : World} {a : Frg → Addr} {kvs : List (Str × Int)} (h : He.dicW K (a K) = some (He.keysIn w.params (kvs.map (·.1)))) (hv : dvB a (kvs.map fun q => .int q.2) K = true) : KDS K w (a K) kvs := by
  obtain ⟨es, n, e, k, v⟩ := dic_of h hv
  refine ⟨es, n, e, es_of k ?_⟩
  rw [List.map_map] at v
  exact v
end Vx
namespace Vx
open PySem PySem.Spec PyProof.Rows L2
theorem ea_of {P : Params} : ∀ {kvs : List (Str × Addr)} {es : List DictEntry}, es.map He.keyOf = He.keysIn P (kvs.map (·.1)) → Vals (kvs.map fun q => V.ref q.2) (es.map (·.val)) → EA P kvs es
  | [], [], _, _ => .nil
  | [], _ :: _, h, _ => by cases h
  | _ :: _, [], h, _ => by cases h
  | (k, v) :: r, e :: es, h, hv => by
    have h1 : He.keyOf e :: es.map He.keyOf = some (k, PyData.keyHash P k) :: He.keysIn P (r.map (·.1)) := h
    injection h1 with h2 h3
    obtain ⟨hh, kk, vv⟩ := e
    cases hv with
    | cons r1 r2 =>
      have e1 : vv = .ref v := r1
      subst e1
      unfold He.keyOf at h2
      cases kk with
      | str x t =>
        have h4 := Option.some.inj h2
        obtain ⟨h5, h6⟩ := Prod.mk.inj h4
        subst h5
        exact .cons h6 (ea_of h3 r2)
      | _ => cases h2
theorem kda_of {K : Frg} {w : World} {a : Frg → Addr} {kvs : List (Str × (Frg → Addr))} (h : He.dicW K (a K) = some (He.keysIn w.params (kvs.map (·.1)))) (hv : dvB a (kvs.map fun q => .adr q.2) K = true) : KDA K w (a K) (kvs.map fun q => (q.1, q.2 K)) := by
  obtain ⟨es, n, e, k, v⟩ := dic_of h hv
  refine ⟨es, n, e, ea_of (k.trans ?_) ?_⟩
  · rw [List.map_map]
    rfl
  · rw [List.map_map] at v ⊢
    exact v
end Vx
namespace Vx
open PySem PySem.Spec PyProof.Rows L2
structure St_Format where
  width : Int
  height : Int
  depth : Int
  chroma : Int
deriving DecidableEq
structure St_Settings where
  fmt : St_Format
  slots : Int
  rows : Int
  deblock : Bool
  offset : Bool
  layers : Int
deriving DecidableEq
structure St_PictureHeader where
  number : Int
  kind : Str
  level : Int
  store : (List Int)
  refs : (List Int)
  weight : Int
  layer : Int
  shown : Bool
  edge : Int
deriving DecidableEq
def F__law_digits_b1 (base_12 : Int) (large_13 : Bool) (cell_25 : Int) (digits_26 : (List Int)) (it29 : Int) : Rx (Int × (List Int)) :=
  (if large_13 = true then grd (0 < (base_12 : Int)) <| grd ((digits_26).length ≤ 1000000) <| bnd ((digits_26) ++ [(cell_25 % base_12)]) fun y39 => grd (0 < (base_12 : Int) ∧ (base_12 : Int) < 2 ^ 128) <| bnd ((cell_25 / base_12)) fun cell_41 => .ok ((cell_41), (y39)) else grd ((-(2 ^ 64) < ((it29 + 1) : Int) ∧ ((it29 + 1) : Int) < 2 ^ 64) ∨ (-(2 ^ 64) < ((it29 + 5) : Int) ∧ ((it29 + 5) : Int) < 2 ^ 64)) <| grd ((-(2 ^ 64) < ((cell_25 / 97) : Int) ∧ ((cell_25 / 97) : Int) < 2 ^ 64) ∨ (-(2 ^ 64) < (it29 : Int) ∧ (it29 : Int) < 2 ^ 64)) <| grd (0 < (base_12 : Int)) <| grd ((digits_26).length ≤ 1000000) <| bnd ((digits_26) ++ [(((((cell_25 * 48271) + (((it29 + 1) * (it29 + 5)) * 69621)) + ((cell_25 / 97) * it29)) % 2147483647) % base_12)]) fun y52 => .ok ((cell_25), (y52)))

def F__law_digits_r1 (cell_58 : Int) (digits_59 : (List Int)) : Rx (List Int) :=
  .ok (digits_59)

def F__law_digits (cell' : Int) (base' : Int) (most' : Int) : Rx (List Int) :=
  bnd (decide (((10 : Int) ^ Int.toNat 18) ≤ cell')) fun large_10 => grd (-(2 ^ 62) ≤ (most' : Int) ∧ (most' : Int) < 2 ^ 62) <| Rx.bind (forS (rng (0) (Int.toNat (most'))) ((cell'), (([] : (List Int)))) (fun s x => F__law_digits_b1 (base') (large_10) (s.1) (s.2) x)) fun s => F__law_digits_r1  (s.1) (s.2)

def F_Format___init__ (width' : Int) (height' : Int) (depth' : Int) (chroma' : Int) : Rx St_Format :=
  (if 1 ≤ width' then (if width' ≤ 256 then (if 1 ≤ height' then (if height' ≤ 256 then (if 8 ≤ depth' then (if depth' ≤ 12 then (if 0 ≤ chroma' then (if chroma' ≤ 2 then .ok (⟨width', height', depth', chroma'⟩ : St_Format) else .er 1) else .er 1) else .er 1) else .er 1) else .er 1) else .er 1) else .er 1) else .er 1)

def F__require (holds' : Bool) (text' : Str) : Rx Unit :=
  (if holds' = true then .ok (()) else .er 4)

def F_Settings___init__ (fmt' : St_Format) (slots' : Int) (rows' : Int) (deblock' : Bool) (offset' : Bool) (layers' : Int) : Rx St_Settings :=
  Rx.bind (F__require ((decide (1 ≤ slots') && decide (slots' ≤ 4))) (("there are 1 to 4 slots" : Str))) fun v96 => Rx.bind (F__require ((decide (1 ≤ rows') && decide (rows' ≤ 32))) (("a slice has 1 to 32 rows of blocks" : Str))) fun v100 => Rx.bind (F__require ((decide (1 ≤ layers') && decide (layers' ≤ 4))) (("there are 1 to 4 layers" : Str))) fun v104 => .ok (⟨fmt', slots', rows', deblock', offset', layers'⟩ : St_Settings)

def F_Format_planes (self' : St_Format) : Rx Int :=
  .ok ((if (self'.chroma : Int) = 0 then 1 else 3))

def F_Format_blocks (self' : St_Format) : Rx (Int × Int) :=
  .ok (((((self'.width + 8) - 1) / 8), (((self'.height + 8) - 1) / 8)))

def F_Format__plane_size (self' : St_Format) (plane' : Int) (width' : Int) (height' : Int) : Rx (Int × Int) :=
  (if 0 ≤ plane' then Rx.bind (noEr (F_Format_planes (self'))) fun v157 => (if plane' < v157 then (if 0 < plane' then (if (self'.chroma : Int) = 1 then .ok ((((width' + 1) / 2), ((height' + 1) / 2))) else .ok ((width', height'))) else .ok ((width', height'))) else .er 3) else .er 3)

def F_Format_coded_size (self' : St_Format) (plane' : Int) : Rx (Int × Int) :=
  Rx.bind (F_Format_blocks (self')) fun v200 => Rx.bind (F_Format__plane_size (self') plane' ((v200.1 * 8)) ((v200.2 * 8))) fun v216 => .ok (v216)

def F__law_middle_c2 (fmt_284 : St_Format) (size_285 : (Int × Int)) (it316 : Int) : Rx (List Int) :=
  grd ((0 : Int) ≤ (fmt_284.depth - 1) ∧ ((fmt_284.depth - 1) : Int) ≤ 4096 ∧ -(2 ^ 4096) < (1 : Int) ∧ (1 : Int) < 2 ^ 4096) <| grd (-(2 ^ 63) ≤ (size_285.1 : Int) ∧ (size_285.1 : Int) < 2 ^ 63 ∧ ([(1 * 2 ^ Int.toNat ((fmt_284.depth - 1)))]).length * Int.toNat (size_285.1) ≤ 1000000) <| .ok (repL ([(1 * 2 ^ Int.toNat ((fmt_284.depth - 1)))]) (size_285.1))

def F__law_middle_b1 (fmt_247 : St_Format) (planes_262 : (List (List (List Int)))) (it265 : Int) : Rx ((List (List (List Int)))) :=
  Rx.bind (F_Format_coded_size (fmt_247) it265) fun v266 => grd (-(2 ^ 62) ≤ (v266.2 : Int) ∧ (v266.2 : Int) < 2 ^ 62) <| Rx.bind (mapA (rng (0) (Int.toNat (v266.2))) [] (fun x => noEr (F__law_middle_c2 (fmt_247) (v266) x))) fun v286 => grd ((planes_262).length ≤ 1000000) <| bnd ((planes_262) ++ [v286]) fun y374 => .ok (y374)

def F__law_middle_r1 (planes_381 : (List (List (List Int)))) : Rx (List (List (List Int))) :=
  .ok (planes_381)

def F__law_middle (fmt' : St_Format) : Rx (List (List (List Int))) :=
  Rx.bind (noEr (F_Format_planes (fmt'))) fun v242 => grd (-(2 ^ 62) ≤ (v242 : Int) ∧ (v242 : Int) < 2 ^ 62) <| Rx.bind (forS (rng (0) (Int.toNat (v242))) (([] : (List (List (List Int))))) (fun s x => F__law_middle_b1 (fmt') s x)) fun s => F__law_middle_r1  s

def F__check_shape_c2 (width_440 : Int) (it484 : (List Int)) : Rx Bool :=
  .ok ((!decide (((((it484) : (List Int)).length : Int) : Int) = width_440)))

def F__check_shape_b1 (it438 : ((List (List Int)) × (Int × Int))) : Rx Unit :=
  (if ((((it438.1) : (List (List Int))).length : Int) : Int) = it438.2.2 then Rx.bind (mapA (it438.1) [] (fun x => noEr (F__check_shape_c2 (it438.2.1) x))) fun v441 => (if (List.any (v441) id) = true then .er 2 else .ok ()) else .er 2)

def F__check_shape_r1  : Rx Unit :=
  .ok (())

def F__check_shape (planes' : (List (List (List Int)))) (sizes' : (List (Int × Int))) : Rx Unit :=
  (if ((((planes') : (List (List (List Int)))).length : Int) : Int) = (((sizes') : (List (Int × Int))).length : Int) then Rx.bind (forS (List.zip (planes') (sizes')) () (fun s x => F__check_shape_b1   x)) fun s => F__check_shape_r1   else .er 2)

def F_Format_size (self' : St_Format) (plane' : Int) : Rx (Int × Int) :=
  Rx.bind (F_Format__plane_size (self') plane' self'.width self'.height) fun v508 => .ok (v508)

def F__sizes_c1 (fmt_529 : St_Format) (it558 : Int) : Rx (Int × Int) :=
  Rx.bind (F_Format_size (fmt_529) it558) fun v559 => .ok v559

def F__sizes (fmt' : St_Format) : Rx (List (Int × Int)) :=
  Rx.bind (noEr (F_Format_planes (fmt'))) fun v524 => grd (-(2 ^ 62) ≤ (v524 : Int) ∧ (v524 : Int) < 2 ^ 62) <| Rx.bind (mapA (rng (0) (Int.toNat (v524))) [] (fun x => noEr (F__sizes_c1 (fmt') x))) fun v530 => .ok (v530)

def F_Format_top (self' : St_Format) : Rx Int :=
  grd ((0 : Int) ≤ self'.depth ∧ (self'.depth : Int) ≤ 4096 ∧ -(2 ^ 4096) < (1 : Int) ∧ (1 : Int) < 2 ^ 4096) <| .ok (((1 * 2 ^ Int.toNat (self'.depth)) - 1))

def F_check_frame_b2 (fmt_640 : St_Format) (it658 : (List Int)) : Rx Unit :=
  grd ((it658 : List Int) ≠ []) <| (if (minL (it658)) < 0 then .er 2 else grd ((it658 : List Int) ≠ []) <| Rx.bind (noEr (F_Format_top (fmt_640))) fun v662 => (if v662 < (maxL (it658)) then .er 2 else .ok ()))

def F_check_frame_r2  : Rx Unit :=
  .ok ()

def F_check_frame_b1 (fmt_618 : St_Format) (it639 : (List (List Int))) : Rx Unit :=
  Rx.bind (forS (it639) () (fun s x => F_check_frame_b2 (fmt_618)  x)) fun s => F_check_frame_r2  

def F_check_frame_r1  : Rx Unit :=
  .ok (())

def F_check_frame (fmt' : St_Format) (frame' : (List (List (List Int)))) : Rx Unit :=
  Rx.bind (F__sizes (fmt')) fun v599 => Rx.bind (F__check_shape (frame') (v599)) fun v614 => Rx.bind (forS (frame') () (fun s x => F_check_frame_b1 (fmt')  x)) fun s => F_check_frame_r1  

def F__pad_plane_c1 (width_685 : Int) (it729 : (List Int)) : Rx (List Int) :=
  grd (-((it729 : (List Int)).length : Int) ≤ (-1) ∧ (-1) < ((it729 : (List Int)).length : Int)) <| grd (-(2 ^ 63) ≤ ((width_685 - (((it729) : (List Int)).length : Int)) : Int) ∧ ((width_685 - (((it729) : (List Int)).length : Int)) : Int) < 2 ^ 63 ∧ ([(itD (it729) ((-1)))]).length * Int.toNat ((width_685 - (((it729) : (List Int)).length : Int))) ≤ 1000000) <| grd ((it729).length + (repL ([(itD (it729) ((-1)))]) ((width_685 - (((it729) : (List Int)).length : Int)))).length ≤ 1000000) <| .ok ((it729) ++ (repL ([(itD (it729) ((-1)))]) ((width_685 - (((it729) : (List Int)).length : Int)))))

def F__pad_plane_c2 (rows_781 : (List (List Int))) (it814 : Int) : Rx (List Int) :=
  grd (-((rows_781 : (List (List Int))).length : Int) ≤ (-1) ∧ (-1) < ((rows_781 : (List (List Int))).length : Int)) <| .ok ((itD (rows_781) ((-1))))

def F__pad_plane (plane' : (List (List Int))) (size' : (Int × Int)) : Rx (List (List Int)) :=
  Rx.bind (mapA (plane') [] (fun x => noEr (F__pad_plane_c1 (size'.1) x))) fun v686 => grd (-(2 ^ 62) ≤ ((size'.2 - (((v686) : (List (List Int))).length : Int)) : Int) ∧ ((size'.2 - (((v686) : (List (List Int))).length : Int)) : Int) < 2 ^ 62) <| Rx.bind (mapA (rng (0) (Int.toNat ((size'.2 - (((v686) : (List (List Int))).length : Int))))) [] (fun x => noEr (F__pad_plane_c2 (v686) x))) fun v782 => grd ((v686 : (List (List Int))).length + (v782 : (List (List Int))).length ≤ 1000000) <| .ok ((v686) ++ (v782))

def F__coded_sizes_c1 (fmt_876 : St_Format) (it905 : Int) : Rx (Int × Int) :=
  Rx.bind (F_Format_coded_size (fmt_876) it905) fun v906 => .ok v906

def F__coded_sizes (fmt' : St_Format) : Rx (List (Int × Int)) :=
  Rx.bind (noEr (F_Format_planes (fmt'))) fun v871 => grd (-(2 ^ 62) ≤ (v871 : Int) ∧ (v871 : Int) < 2 ^ 62) <| Rx.bind (mapA (rng (0) (Int.toNat (v871))) [] (fun x => noEr (F__coded_sizes_c1 (fmt') x))) fun v877 => .ok (v877)

def F_pad_frame_c1 (it1034 : ((List (List Int)) × (Int × Int))) : Rx (List (List Int)) :=
  Rx.bind (F__pad_plane (it1034.1) (it1034.2)) fun v1035 => .ok v1035

def F_pad_frame (fmt' : St_Format) (frame' : (List (List (List Int)))) : Rx (List (List (List Int))) :=
  Rx.bind (F_check_frame (fmt') (frame')) fun v945 => Rx.bind (F__coded_sizes (fmt')) fun v949 => Rx.bind (mapA (List.zip (frame') (v949)) [] (fun x => noEr (F_pad_frame_c1  x))) fun v964 => .ok (v964)

def F_Format_middle (self' : St_Format) : Rx Int :=
  grd ((0 : Int) ≤ (self'.depth - 1) ∧ ((self'.depth - 1) : Int) ≤ 4096 ∧ -(2 ^ 4096) < (1 : Int) ∧ (1 : Int) < 2 ^ 4096) <| .ok ((1 * 2 ^ Int.toNat ((self'.depth - 1))))

def F_flat_frame_c2 (sample_1154 : Int) (width_1155 : Int) (it1190 : Int) : Rx (List Int) :=
  grd (-(2 ^ 63) ≤ (width_1155 : Int) ∧ (width_1155 : Int) < 2 ^ 63 ∧ ([sample_1154]).length * Int.toNat (width_1155) ≤ 1000000) <| .ok (repL ([sample_1154]) (width_1155))

def F_flat_frame_b1 (sample_1113 : Int) (frame_1149 : (List (List (List Int)))) (it1152 : (Int × Int)) : Rx ((List (List (List Int)))) :=
  grd (-(2 ^ 62) ≤ (it1152.2 : Int) ∧ (it1152.2 : Int) < 2 ^ 62) <| Rx.bind (mapA (rng (0) (Int.toNat (it1152.2))) [] (fun x => noEr (F_flat_frame_c2 (sample_1113) (it1152.1) x))) fun v1156 => grd ((frame_1149).length ≤ 1000000) <| bnd ((frame_1149) ++ [v1156]) fun y1244 => .ok (y1244)

def F_flat_frame_r1 (frame_1255 : (List (List (List Int)))) : Rx (List (List (List Int))) :=
  .ok (frame_1255)

def F_flat_frame_c4 (sample_1331 : Int) (width_1332 : Int) (it1367 : Int) : Rx (List Int) :=
  grd (-(2 ^ 63) ≤ (width_1332 : Int) ∧ (width_1332 : Int) < 2 ^ 63 ∧ ([sample_1331]).length * Int.toNat (width_1332) ≤ 1000000) <| .ok (repL ([sample_1331]) (width_1332))

def F_flat_frame_b3 (sample_1290 : Int) (frame_1326 : (List (List (List Int)))) (it1329 : (Int × Int)) : Rx ((List (List (List Int)))) :=
  grd (-(2 ^ 62) ≤ (it1329.2 : Int) ∧ (it1329.2 : Int) < 2 ^ 62) <| Rx.bind (mapA (rng (0) (Int.toNat (it1329.2))) [] (fun x => noEr (F_flat_frame_c4 (sample_1290) (it1329.1) x))) fun v1333 => grd ((frame_1326).length ≤ 1000000) <| bnd ((frame_1326) ++ [v1333]) fun y1421 => .ok (y1421)

def F_flat_frame_r3 (frame_1432 : (List (List (List Int)))) : Rx (List (List (List Int))) :=
  .ok (frame_1432)

def F_flat_frame (fmt' : St_Format) (value' : PyData) : Rx (List (List (List Int))) :=
  (if (dNone (value')) = true then Rx.bind (noEr (F_Format_middle (fmt'))) fun v1078 => (if 0 ≤ v1078 then Rx.bind (noEr (F_Format_top (fmt'))) fun v1083 => (if v1078 ≤ v1083 then Rx.bind (F__sizes (fmt')) fun v1098 => Rx.bind (forS (v1098) (([] : (List (List (List Int))))) (fun s x => F_flat_frame_b1 (v1078) s x)) fun s => F_flat_frame_r1  s else .er 3) else .er 3) else grd ((cI).ok (value') = true) <| bnd (((cI).dec (value'))) fun sample_1258 => (if 0 ≤ sample_1258 then Rx.bind (noEr (F_Format_top (fmt'))) fun v1260 => (if sample_1258 ≤ v1260 then Rx.bind (F__sizes (fmt')) fun v1275 => Rx.bind (forS (v1275) (([] : (List (List (List Int))))) (fun s x => F_flat_frame_b3 (sample_1258) s x)) fun s => F_flat_frame_r3  s else .er 3) else .er 3))

def F_middle_planes (fmt' : St_Format) : Rx (List (List (List Int))) :=
  Rx.bind (F_flat_frame (fmt') ((encN (())))) fun v1433 => Rx.bind (F_pad_frame (fmt') (v1433)) fun v1452 => .ok (v1452)

def F__check_numbers_k7 (settings_1535 : St_Settings) (header_1536 : St_PictureHeader) : Rx Unit :=
  (if decide ((header_1536.edge : Int) = 0) = true then Rx.bind (F__require true (("there is no edge without the filter" : Str))) fun v1547 => .ok (()) else Rx.bind (F__require settings_1535.deblock (("there is no edge without the filter" : Str))) fun v1548 => .ok (()))

def F__check_numbers_k6 (settings_1524 : St_Settings) (header_1525 : St_PictureHeader) : Rx Unit :=
  Rx.bind (((if (-6) ≤ header_1525.edge then Rx.bind (F__require (decide (header_1525.edge ≤ 6)) (("the edge is from -6 to 6" : Str))) fun v1540 => .ok () else Rx.bind (F__require false (("the edge is from -6 to 6" : Str))) fun v1541 => .ok ()) : Rx Unit)) fun s => F__check_numbers_k7 (settings_1524) (header_1525) 

def F__check_numbers_k5 (settings_1513 : St_Settings) (header_1514 : St_PictureHeader) : Rx Unit :=
  Rx.bind (((if 0 ≤ header_1514.layer then Rx.bind (F__require (decide (header_1514.layer < settings_1513.layers)) (("the layer is below the number of layers" : Str))) fun v1529 => .ok () else Rx.bind (F__require false (("the layer is below the number of layers" : Str))) fun v1530 => .ok ()) : Rx Unit)) fun s => F__check_numbers_k6 (settings_1513) (header_1514) 

def F__check_numbers_k4 (settings_1502 : St_Settings) (header_1503 : St_PictureHeader) : Rx Unit :=
  Rx.bind (((if decide ((header_1503.weight : Int) = 8) = true then Rx.bind (F__require true (("only B pictures have a weight" : Str))) fun v1518 => .ok () else Rx.bind (F__require (decide (V.str (header_1503.kind) = V.str (("B" : Str)))) (("only B pictures have a weight" : Str))) fun v1519 => .ok ()) : Rx Unit)) fun s => F__check_numbers_k5 (settings_1502) (header_1503) 

def F__check_numbers_k3 (settings_1491 : St_Settings) (header_1492 : St_PictureHeader) : Rx Unit :=
  Rx.bind (((if 0 ≤ header_1492.weight then Rx.bind (F__require (decide (header_1492.weight ≤ 16)) (("the weight is from 0 to 16" : Str))) fun v1507 => .ok () else Rx.bind (F__require false (("the weight is from 0 to 16" : Str))) fun v1508 => .ok ()) : Rx Unit)) fun s => F__check_numbers_k4 (settings_1491) (header_1492) 

def F__check_numbers_k2 (settings_1482 : St_Settings) (header_1483 : St_PictureHeader) : Rx Unit :=
  Rx.bind (((if 0 ≤ header_1483.level then Rx.bind (F__require (decide (header_1483.level ≤ 31)) (("the level is from 0 to 31" : Str))) fun v1496 => .ok () else Rx.bind (F__require false (("the level is from 0 to 31" : Str))) fun v1497 => .ok ()) : Rx Unit)) fun s => F__check_numbers_k3 (settings_1482) (header_1483) 

def F__check_numbers_k1 (settings_1471 : St_Settings) (header_1472 : St_PictureHeader) : Rx Unit :=
  Rx.bind ((Rx.bind (F__require (decide ((header_1472.kind : Str) ∈ ([("I" : Str), ("P" : Str), ("B" : Str)] : List Str))) (("the kind of a picture is I, P or B" : Str))) fun v1486 => .ok () : Rx Unit)) fun s => F__check_numbers_k2 (settings_1471) (header_1472) 

def F__check_numbers (settings' : St_Settings) (header' : St_PictureHeader) : Rx Unit :=
  Rx.bind (((if 0 ≤ header'.number then Rx.bind (F__require (decide (header'.number ≤ 999)) (("the number of a picture is from 0 to 999" : Str))) fun v1476 => .ok () else Rx.bind (F__require false (("the number of a picture is from 0 to 999" : Str))) fun v1477 => .ok ()) : Rx Unit)) fun s => F__check_numbers_k1 (settings') (header') 

def F__check_slots_b1 (settings_1559 : St_Settings) (it1577 : Int) : Rx Unit :=
  Rx.bind (F__require ((decide (0 ≤ it1577) && decide (it1577 < settings_1559.slots))) (("there is no such slot" : Str))) fun v1581 => .ok ()

def F__check_slots_r1 (header_1560 : St_PictureHeader) : Rx Unit :=
  grd ((header_1560.store : List Int).length ≤ 50) <| Rx.bind (F__require (decide ((header_1560.store : (List Int)) = (sortSet (header_1560.store)))) (("the slots of store ascend without duplicates" : Str))) fun v1605 => grd (hasG ([("I", [0]), ("P", [1, 2]), ("B", [2])] : List (Str × List Int)) (header_1560.kind) = true) <| Rx.bind (F__require (decide (((((header_1560.refs) : (List Int)).length : Int) : Int) ∈ ((dictG ([("I", [0]), ("P", [1, 2]), ("B", [2])] : List (Str × List Int)) (header_1560.kind)) : List Int))) (("the number of refs does not belong to the kind" : Str))) fun v1607 => .ok (())

def F__check_slots (settings' : St_Settings) (header' : St_PictureHeader) : Rx Unit :=
  grd ((header'.store).length + (header'.refs).length ≤ 1000000) <| Rx.bind (forS ((header'.store) ++ (header'.refs)) () (fun s x => F__check_slots_b1 (settings')  x)) fun s => F__check_slots_r1 (header') 

def F_PictureHeader___init__ (settings' : St_Settings) (number' : Int) (kind' : Str) (level' : Int) (store' : (List Int)) (refs' : (List Int)) (weight' : Int) (layer' : Int) (shown' : Bool) (edge' : Int) : Rx St_PictureHeader :=
  Rx.bind (F__check_numbers (settings') ((⟨number', kind', level', store', refs', weight', layer', shown', edge'⟩ : St_PictureHeader))) fun v1684 => Rx.bind (F__check_slots (settings') ((⟨number', kind', level', store', refs', weight', layer', shown', edge'⟩ : St_PictureHeader))) fun v1691 => .ok (⟨number', kind', level', store', refs', weight', layer', shown', edge'⟩ : St_PictureHeader)

def F__law_header_k3 (settings_1784 : St_Settings) (cell_1785 : Int) (kind_1786 : Str) (refs_1787 : (List Int)) (weight_1788 : Int) (edge_1789 : Int) : Rx St_PictureHeader :=
  Rx.bind (F_PictureHeader___init__ (settings_1784) (((cell_1785 / 13) % 1000)) kind_1786 (((cell_1785 / 17) % 32)) (([] : List Int)) (refs_1787) weight_1788 0 true edge_1789) fun v1812 => .ok (⟨v1812.number, v1812.kind, v1812.level, v1812.store, v1812.refs, v1812.weight, v1812.layer, v1812.shown, v1812.edge⟩ : St_PictureHeader)

def F__law_header_k2 (settings_1754 : St_Settings) (cell_1755 : Int) (deblock_1756 : Bool) (kind_1757 : Str) (refs_1758 : (List Int)) (weight_1759 : Int) : Rx St_PictureHeader :=
  Rx.bind (((if deblock_1756 = true then bnd ((((cell_1755 / 11) % 13) - 6)) fun edge_1794 => .ok (edge_1794) else .ok (0)) : Rx (Int))) fun s => F__law_header_k3 (settings_1754) (cell_1755) (kind_1757) (refs_1758) (weight_1759) s

def F__law_header_k1 (settings_1717 : St_Settings) (cell_1718 : Int) (slots_1719 : Int) (deblock_1720 : Bool) (kind_1721 : Str) (refs_1722 : (List Int)) : Rx St_PictureHeader :=
  Rx.bind (((if V.str (kind_1721) = V.str (("B" : Str)) then grd (0 < (slots_1719 : Int)) <| grd (0 < (slots_1719 : Int)) <| bnd (((cell_1718 / 5) % 17)) fun weight_1777 => .ok (([((cell_1718 / 3) % slots_1719), ((cell_1718 / 14) % slots_1719)]), (weight_1777)) else .ok ((refs_1722), (8))) : Rx ((List Int) × Int))) fun s => F__law_header_k2 (settings_1717) (cell_1718) (deblock_1720) (kind_1721) (s.1) (s.2)

def F__law_header (settings' : St_Settings) (cell' : Int) (slots' : Int) (deblock' : Bool) : Rx St_PictureHeader :=
  grd (-(([("I" : Str), ("P" : Str), ("B" : Str)] : (List Str)).length : Int) ≤ (cell' % 3) ∧ (cell' % 3) < (([("I" : Str), ("P" : Str), ("B" : Str)] : (List Str)).length : Int)) <| Rx.bind (((if V.str ((itD ([("I" : Str), ("P" : Str), ("B" : Str)]) ((cell' % 3)))) = V.str (("P" : Str)) then grd (0 < (slots' : Int)) <| (if (((cell' / 7) % 2) : Int) = 1 then grd (0 < (slots' : Int)) <| grd (([((cell' / 3) % slots')]).length ≤ 1000000) <| bnd (([((cell' / 3) % slots')]) ++ [((cell' / 14) % slots')]) fun y1747 => .ok (y1747) else .ok ([((cell' / 3) % slots')])) else .ok (([] : (List Int)))) : Rx ((List Int)))) fun s => F__law_header_k1 (settings') (cell') (slots') (deblock') ((itD ([("I" : Str), ("P" : Str), ("B" : Str)]) ((cell' % 3)))) s

def F_copy_planes_c2 (it1925 : (List Int)) : Rx (List Int) :=
  .ok it1925

def F_copy_planes_c1 (it1875 : (List (List Int))) : Rx (List (List Int)) :=
  Rx.bind (mapA (it1875) [] (fun x => noEr (F_copy_planes_c2  x))) fun v1876 => .ok v1876

def F_copy_planes (planes' : (List (List (List Int)))) : Rx (List (List (List Int))) :=
  Rx.bind (mapA (planes') [] (fun x => noEr (F_copy_planes_c1  x))) fun v1830 => .ok (v1830)

def F__content (fmt' : St_Format) (planes' : PyData) : Rx (List (List (List Int))) :=
  (if (dNone (planes')) = true then Rx.bind (F_middle_planes (fmt')) fun v1978 => .ok (v1978) else grd (((cL (cL (cL cI)))).ok (planes') = true) <| Rx.bind (F_copy_planes ((((cL (cL (cL cI)))).dec (planes')))) fun v2003 => .ok (v2003))

def F_references_of_c1 (settings_2026 : St_Settings) (slots_2027 : (List PyData)) (it2068 : Int) : Rx (List (List (List Int))) :=
  grd (-((slots_2027 : (List PyData)).length : Int) ≤ it2068 ∧ it2068 < ((slots_2027 : (List PyData)).length : Int)) <| Rx.bind (F__content (settings_2026.fmt) ((itD (slots_2027) (it2068)))) fun v2073 => .ok v2073

def F_references_of (settings' : St_Settings) (header' : St_PictureHeader) (slots' : (List PyData)) : Rx (List (List (List (List Int)))) :=
  Rx.bind (mapA (header'.refs) [] (fun x => noEr (F_references_of_c1 (settings') (slots') x))) fun v2028 => .ok (v2028)

def F__law_cell (script' : (List Int)) (k' : Int) : Rx Int :=
  (if k' < (((script') : (List Int)).length : Int) then grd (-((script' : (List Int)).length : Int) ≤ k' ∧ k' < ((script' : (List Int)).length : Int)) <| .ok ((if (itD (script') (k')) < 0 then -(itD (script') (k')) else (itD (script') (k')))) else .ok (0))

def F__law_planes_c3 (digits_2216 : (List Int)) (j_2217 : Int) (it2252 : Int) : Rx Int :=
  grd (-((digits_2216 : (List Int)).length : Int) ≤ (((7 * j_2217) + it2252) % 24) ∧ (((7 * j_2217) + it2252) % 24) < ((digits_2216 : (List Int)).length : Int)) <| .ok ((itD (digits_2216) ((((7 * j_2217) + it2252) % 24))))

def F__law_planes_c4 (cell_2295 : Int) (top_2296 : Int) (j_2297 : Int) (it2332 : Int) : Rx Int :=
  grd (0 < ((top_2296 + 1) : Int)) <| .ok ((((cell_2295 + (9 * it2332)) + (5 * j_2297)) % (top_2296 + 1)))

def F__law_planes_c5 (top_2374 : Int) (digits_2375 : (List Int)) (j_2376 : Int) (it2411 : Int) : Rx Int :=
  grd (-((digits_2375 : (List Int)).length : Int) ≤ 0 ∧ 0 < ((digits_2375 : (List Int)).length : Int)) <| grd (0 < ((top_2374 + 1) : Int)) <| .ok ((((itD (digits_2375) (0)) + (((it2411 / 3) + (j_2376 / 3)) * 40)) % (top_2374 + 1)))

def F__law_planes_b2 (cell_2189 : Int) (top_2190 : Int) (size_2191 : (Int × Int)) (digits_2192 : (List Int)) (rows_2210 : (List (List Int))) (it2213 : Int) : Rx ((List (List Int))) :=
  (if (((cell_2189 / 7) % 3) : Int) = 0 then grd (-(2 ^ 62) ≤ (size_2191.1 : Int) ∧ (size_2191.1 : Int) < 2 ^ 62) <| Rx.bind (mapA (rng (0) (Int.toNat (size_2191.1))) [] (fun x => noEr (F__law_planes_c3 (digits_2192) (it2213) x))) fun v2218 => grd ((rows_2210).length ≤ 1000000) <| bnd ((rows_2210) ++ [v2218]) fun y2290 => .ok (y2290) else (if (((cell_2189 / 7) % 3) : Int) = 1 then grd (-(2 ^ 62) ≤ (size_2191.1 : Int) ∧ (size_2191.1 : Int) < 2 ^ 62) <| Rx.bind (mapA (rng (0) (Int.toNat (size_2191.1))) [] (fun x => noEr (F__law_planes_c4 (cell_2189) (top_2190) (it2213) x))) fun v2298 => grd ((rows_2210).length ≤ 1000000) <| bnd ((rows_2210) ++ [v2298]) fun y2370 => .ok (y2370) else grd (-(2 ^ 62) ≤ (size_2191.1 : Int) ∧ (size_2191.1 : Int) < 2 ^ 62) <| Rx.bind (mapA (rng (0) (Int.toNat (size_2191.1))) [] (fun x => noEr (F__law_planes_c5 (top_2190) (digits_2192) (it2213) x))) fun v2377 => grd ((rows_2210).length ≤ 1000000) <| bnd ((rows_2210) ++ [v2377]) fun y2450 => .ok (y2450)))

def F__law_planes_r2 (planes_2193 : (List (List (List Int)))) (rows_2461 : (List (List Int))) : Rx ((List (List (List Int)))) :=
  grd ((planes_2193).length ≤ 1000000) <| bnd ((planes_2193) ++ [rows_2461]) fun y2474 => .ok (y2474)

def F__law_planes_b1 (cell_2129 : Int) (fmt_2130 : St_Format) (top_2131 : Int) (planes_2149 : (List (List (List Int)))) (it2152 : Int) : Rx ((List (List (List Int)))) :=
  Rx.bind (F_Format_coded_size (fmt_2130) it2152) fun v2153 => Rx.bind (F__law_digits ((cell_2129 + (17 * it2152))) ((top_2131 + 1)) 24) fun v2169 => grd (-(2 ^ 62) ≤ (v2153.2 : Int) ∧ (v2153.2 : Int) < 2 ^ 62) <| Rx.bind (forS (rng (0) (Int.toNat (v2153.2))) (([] : (List (List Int)))) (fun s x => F__law_planes_b2 (cell_2129) (top_2131) (v2153) (v2169) s x)) fun s => F__law_planes_r2 (planes_2149) s

def F__law_planes_r1 (planes_2481 : (List (List (List Int)))) : Rx (List (List (List Int))) :=
  .ok (planes_2481)

def F__law_planes (cell' : Int) (fmt' : St_Format) (top' : Int) : Rx (List (List (List Int))) :=
  Rx.bind (noEr (F_Format_planes (fmt'))) fun v2124 => grd (-(2 ^ 62) ≤ (v2124 : Int) ∧ (v2124 : Int) < 2 ^ 62) <| Rx.bind (forS (rng (0) (Int.toNat (v2124))) (([] : (List (List (List Int))))) (fun s x => F__law_planes_b1 (cell') (fmt') (top') s x)) fun s => F__law_planes_r1  s

def F_law_b1 (script_2640 : (List Int)) (fmt_2641 : St_Format) (slots_2669 : (List PyData)) (it2672 : Int) : Rx ((List PyData)) :=
  Rx.bind (F__law_cell (script_2640) ((2 + it2672))) fun v2673 => bnd ((v2673 + it2672)) fun cell_2674 => (if ((cell_2674 % 3) : Int) = 0 then grd ((slots_2669).length ≤ 1000000) <| bnd ((slots_2669) ++ [(encN (()))]) fun y2685 => .ok (y2685) else Rx.bind (noEr (F_Format_top (fmt_2641))) fun v2691 => Rx.bind (F__law_planes ((cell_2674 / 3)) (fmt_2641) v2691) fun v2696 => grd ((slots_2669).length ≤ 1000000) <| bnd ((slots_2669) ++ [((encL (encL (encL PyData.int))) (v2696))]) fun y2720 => .ok (y2720))

def F_law_b2 (due_2787 : (List (List (List Int)))) (slots_2788 : (List PyData)) (header_2789 : St_PictureHeader) (references_2790 : (List (List (List (List Int))))) (it2824 : Int) : Rx (Lp Unit Bool) :=
  grd (-((header_2789.refs : (List Int)).length : Int) ≤ it2824 ∧ it2824 < ((header_2789.refs : (List Int)).length : Int)) <| grd (-((slots_2788 : (List PyData)).length : Int) ≤ (itD (header_2789.refs) (it2824)) ∧ (itD (header_2789.refs) (it2824)) < ((slots_2788 : (List PyData)).length : Int)) <| grd (-((references_2790 : (List (List (List (List Int))))).length : Int) ≤ it2824 ∧ it2824 < ((references_2790 : (List (List (List (List Int))))).length : Int)) <| (if (dNone ((itD (slots_2788) ((itD (header_2789.refs) (it2824)))))) = true then grd (SeqAt.shaped (((encL (encL (encL PyData.int))) ((itD (references_2790) (it2824))))) = true ∧ SeqAt.shaped (((encL (encL (encL PyData.int))) (due_2787))) = true) <| (if (!PyData.eqv ((encL (encL (encL PyData.int))) ((itD (references_2790) (it2824)))) ((encL (encL (encL PyData.int))) (due_2787))) = true then .ok (.rt (false)) else .ok (.go ())) else grd (SeqAt.shaped (((encL (encL (encL PyData.int))) ((itD (references_2790) (it2824))))) = true ∧ SeqAt.shaped ((itD (slots_2788) ((itD (header_2789.refs) (it2824))))) = true) <| (if (!PyData.eqv ((encL (encL (encL PyData.int))) ((itD (references_2790) (it2824)))) (itD (slots_2788) ((itD (header_2789.refs) (it2824))))) = true then .ok (.rt (false)) else .ok (.go ())))

def F_law_c5 (it3135 : (List Int)) : Rx (List Int) :=
  .ok it3135

def F_law_c4 (it3046 : (List (List Int))) : Rx (List (List Int)) :=
  Rx.bind (mapA (it3046) [] (fun x => noEr (F_law_c5  x))) fun v3047 => .ok v3047

def F_law_b3 (references_2904 : (List (List (List (List Int))))) (it2907 : Int) : Rx (Lp ((List (List (List (List Int))))) Bool) :=
  grd ((cutL (references_2904) none (some (it2907)) : (List (List (List (List Int))))).length + (cutL (references_2904) (some ((it2907 + 1))) none : (List (List (List (List Int))))).length ≤ 1000000) <| grd (ShowOk ((encL (encL (encL (encL PyData.int)))) ((cutL (references_2904) none (some (it2907))) ++ (cutL (references_2904) (some ((it2907 + 1))) none)))) <| grd (-((references_2904 : (List (List (List (List Int))))).length : Int) ≤ it2907 ∧ it2907 < ((references_2904 : (List (List (List (List Int))))).length : Int)) <| Rx.bind (mapA ((itD (references_2904) (it2907))) [] (fun x => noEr (F_law_c4  x))) fun v2962 => grd (-((references_2904 : (List (List (List (List Int))))).length : Int) ≤ it2907 ∧ it2907 < ((references_2904 : (List (List (List (List Int))))).length : Int)) <| bnd ((((((itD (references_2904) (it2907))) : (List (List (List Int)))).length : Int) - 1)) fun last_3247 => grd (-((references_2904 : (List (List (List (List Int))))).length : Int) ≤ it2907 ∧ it2907 < ((references_2904 : (List (List (List (List Int))))).length : Int)) <| grd (-(((itD (references_2904) (it2907)) : (List (List (List Int)))).length : Int) ≤ last_3247 ∧ last_3247 < (((itD (references_2904) (it2907)) : (List (List (List Int)))).length : Int)) <| grd (-((v2962 : (List (List (List Int)))).length : Int) ≤ last_3247 ∧ last_3247 < ((v2962 : (List (List (List Int)))).length : Int)) <| grd (-(((itD ((itD (references_2904) (it2907))) (last_3247)) : (List (List Int))).length : Int) ≤ (((((itD (v2962) (last_3247))) : (List (List Int))).length : Int) - 1) ∧ (((((itD (v2962) (last_3247))) : (List (List Int))).length : Int) - 1) < (((itD ((itD (references_2904) (it2907))) (last_3247)) : (List (List Int))).length : Int)) <| grd (-(((itD ((itD ((itD (references_2904) (it2907))) (last_3247))) ((((((itD (v2962) (last_3247))) : (List (List Int))).length : Int) - 1))) : (List Int)).length : Int) ≤ 0 ∧ 0 < (((itD ((itD ((itD (references_2904) (it2907))) (last_3247))) ((((((itD (v2962) (last_3247))) : (List (List Int))).length : Int) - 1))) : (List Int)).length : Int)) <| bnd (setL ((itD ((itD (references_2904) (it2907))) (last_3247))) ((((((itD (v2962) (last_3247))) : (List (List Int))).length : Int) - 1)) (setL ((itD ((itD ((itD (references_2904) (it2907))) (last_3247))) ((((((itD (v2962) (last_3247))) : (List (List Int))).length : Int) - 1)))) (0) ((-1)))) fun y3308 => bnd (setL ((itD (references_2904) (it2907))) (last_3247) (y3308)) fun y3311 => bnd (setL (references_2904) (it2907) (y3311)) fun y3314 => grd (-((v2962 : (List (List (List Int)))).length : Int) ≤ last_3247 ∧ last_3247 < ((v2962 : (List (List (List Int)))).length : Int)) <| grd (-((v2962 : (List (List (List Int)))).length : Int) ≤ last_3247 ∧ last_3247 < ((v2962 : (List (List (List Int)))).length : Int)) <| grd (-(((itD (v2962) (last_3247)) : (List (List Int))).length : Int) ≤ (((((itD (v2962) (last_3247))) : (List (List Int))).length : Int) - 1) ∧ (((((itD (v2962) (last_3247))) : (List (List Int))).length : Int) - 1) < (((itD (v2962) (last_3247)) : (List (List Int))).length : Int)) <| grd (-(((itD ((itD (v2962) (last_3247))) ((((((itD (v2962) (last_3247))) : (List (List Int))).length : Int) - 1))) : (List Int)).length : Int) ≤ 0 ∧ 0 < (((itD ((itD (v2962) (last_3247))) ((((((itD (v2962) (last_3247))) : (List (List Int))).length : Int) - 1))) : (List Int)).length : Int)) <| bnd (setL ((itD (v2962) (last_3247))) ((((((itD (v2962) (last_3247))) : (List (List Int))).length : Int) - 1)) (setL ((itD ((itD (v2962) (last_3247))) ((((((itD (v2962) (last_3247))) : (List (List Int))).length : Int) - 1)))) (0) ((-1)))) fun y3363 => bnd (setL (v2962) (last_3247) (y3363)) fun y3366 => grd (-((y3314 : (List (List (List (List Int))))).length : Int) ≤ it2907 ∧ it2907 < ((y3314 : (List (List (List (List Int))))).length : Int)) <| (if ((itD (y3314) (it2907)) : (List (List (List Int)))) = y3366 then grd ((cutL (y3314) none (some (it2907)) : (List (List (List (List Int))))).length + (cutL (y3314) (some ((it2907 + 1))) none : (List (List (List (List Int))))).length ≤ 1000000) <| grd (ShowOk ((encL (encL (encL (encL PyData.int)))) ((cutL (y3314) none (some (it2907))) ++ (cutL (y3314) (some ((it2907 + 1))) none)))) <| (if V.str ((PyData.shown ((encL (encL (encL (encL PyData.int)))) ((cutL (y3314) none (some (it2907))) ++ (cutL (y3314) (some ((it2907 + 1))) none))))) = V.str ((PyData.shown ((encL (encL (encL (encL PyData.int)))) ((cutL (references_2904) none (some (it2907))) ++ (cutL (references_2904) (some ((it2907 + 1))) none))))) then .ok (.go (y3314)) else .ok (.rt (false))) else .ok (.rt (false)))

def F_law_r3 (fmt_2865 : St_Format) (due_2866 : (List (List (List Int)))) (slots_2867 : (List PyData)) (kept_2868 : Str) (references_3460 : (List (List (List (List Int))))) : Rx Bool :=
  grd (ShowOk ((encL encD) (slots_2867))) <| (if decide (V.str ((PyData.shown ((encL encD) (slots_2867)))) = V.str (kept_2868)) = true then Rx.bind (F_middle_planes (fmt_2865)) fun v3463 => .ok (decide ((v3463 : (List (List (List Int)))) = due_2866)) else .ok (false))

def F_law_r2 (fmt_2791 : St_Format) (due_2792 : (List (List (List Int)))) (slots_2793 : (List PyData)) (kept_2794 : Str) (references_2795 : (List (List (List (List Int))))) : Rx Bool :=
  grd (-(2 ^ 62) ≤ ((((references_2795) : (List (List (List (List Int))))).length : Int) : Int) ∧ ((((references_2795) : (List (List (List (List Int))))).length : Int) : Int) < 2 ^ 62) <| Rx.bind (forR (rng (0) (Int.toNat ((((references_2795) : (List (List (List (List Int))))).length : Int)))) (references_2795) (fun s x => F_law_b3  s x)) fun l => l.aft Rx.ok fun s => F_law_r3 (fmt_2791) (due_2792) (slots_2793) (kept_2794) s

def F_law_r1 (script_2642 : (List Int)) (count_2643 : Int) (settings_2644 : St_Settings) (due_2645 : (List (List (List Int)))) (slots_2737 : (List PyData)) : Rx Bool :=
  Rx.bind (F__law_cell (script_2642) 1) fun v2738 => Rx.bind (F__law_header (settings_2644) v2738 count_2643 false) fun v2739 => grd (ShowOk ((encL encD) (slots_2737))) <| Rx.bind (F_references_of (settings_2644) (v2739) (slots_2737)) fun v2761 => (if ((((v2761) : (List (List (List (List Int))))).length : Int) : Int) = (((v2739.refs) : (List Int)).length : Int) then grd (ShowOk ((encL encD) (slots_2737))) <| (if V.str ((PyData.shown ((encL encD) (slots_2737)))) = V.str ((PyData.shown ((encL encD) (slots_2737)))) then grd (-(2 ^ 62) ≤ ((((v2761) : (List (List (List (List Int))))).length : Int) : Int) ∧ ((((v2761) : (List (List (List (List Int))))).length : Int) : Int) < 2 ^ 62) <| Rx.bind (forR (rng (0) (Int.toNat ((((v2761) : (List (List (List (List Int))))).length : Int)))) () (fun s x => F_law_b2 (due_2645) (slots_2737) (v2739) (v2761)  x)) fun l => l.aft Rx.ok fun s => F_law_r2 (settings_2644.fmt) (due_2645) (slots_2737) ((PyData.shown ((encL encD) (slots_2737)))) (v2761)  else .ok (false)) else .ok (false))

def F_law (script' : (List Int)) : Rx Bool :=
  Rx.bind (F__law_cell (script') 0) fun v2486 => Rx.bind (F__law_digits v2486 2520 6) fun v2487 => grd (-((v2487 : (List Int)).length : Int) ≤ 0 ∧ 0 < ((v2487 : (List Int)).length : Int)) <| grd (-((v2487 : (List Int)).length : Int) ≤ 1 ∧ 1 < ((v2487 : (List Int)).length : Int)) <| grd (-((v2487 : (List Int)).length : Int) ≤ 2 ∧ 2 < ((v2487 : (List Int)).length : Int)) <| grd (-((v2487 : (List Int)).length : Int) ≤ 3 ∧ 3 < ((v2487 : (List Int)).length : Int)) <| Rx.bind (F_Format___init__ ((1 + ((itD (v2487) (0)) % 16))) ((1 + ((itD (v2487) (1)) % 16))) ((8 + ((itD (v2487) (2)) % 5))) (((itD (v2487) (3)) % 3))) fun v2511 => grd (-((v2487 : (List Int)).length : Int) ≤ 4 ∧ 4 < ((v2487 : (List Int)).length : Int)) <| bnd ((1 + ((itD (v2487) (4)) % 4))) fun count_2518 => Rx.bind (F_Settings___init__ (v2511) count_2518 1 false false 1) fun v2531 => Rx.bind (F__law_middle (v2511)) fun v2537 => Rx.bind (F_middle_planes (v2511)) fun v2552 => (if (v2552 : (List (List (List Int)))) = v2537 then grd (-((v2552 : (List (List (List Int)))).length : Int) ≤ 0 ∧ 0 < ((v2552 : (List (List (List Int)))).length : Int)) <| grd (-(((itD (v2552) (0)) : (List (List Int))).length : Int) ≤ 0 ∧ 0 < (((itD (v2552) (0)) : (List (List Int))).length : Int)) <| grd (-(((itD ((itD (v2552) (0))) (0)) : (List Int)).length : Int) ≤ 0 ∧ 0 < (((itD ((itD (v2552) (0))) (0)) : (List Int)).length : Int)) <| bnd (setL ((itD (v2552) (0))) (0) (setL ((itD ((itD (v2552) (0))) (0))) (0) ((-1)))) fun y2604 => bnd (setL (v2552) (0) (y2604)) fun y2607 => Rx.bind (F_middle_planes (v2511)) fun v2609 => (if (v2609 : (List (List (List Int)))) = v2537 then grd (-(2 ^ 62) ≤ (count_2518 : Int) ∧ (count_2518 : Int) < 2 ^ 62) <| Rx.bind (forS (rng (0) (Int.toNat (count_2518))) (([] : (List PyData))) (fun s x => F_law_b1 (script') (v2511) s x)) fun s => F_law_r1 (script') (count_2518) ((⟨v2511, v2531.slots, v2531.rows, v2531.deblock, v2531.offset, v2531.layers⟩ : St_Settings)) (v2537) s else .ok (false)) else .ok (false))
theorem cell_gv (s : List Int) (k : Int) (h : 0 ≤ k) : Gv (F__law_cell s k) (fun v => 0 ≤ v) := by
  unfold F__law_cell
  refine Gv.ite (fun c => Gv.grd ⟨by omega, c⟩ (.ok ?_)) fun _ => .ok (by decide)
  split <;> omega
theorem all_snoc {P : Int → Prop} {xs : List Int} {y : Int} (h : ∀ x ∈ xs, P x) (hy : P y) : ∀ x ∈ xs ++ [y], P x := fun x hx => by
  rcases List.mem_append.mp hx with q | q
  · exact h x q
  · rw [List.mem_singleton.mp q]
    exact hy
theorem digits_gv (cell base most : Int) (h0 : 0 < base) (h1 : base < 2 ^ 64) (hm : 0 ≤ most) (hm2 : most ≤ 1000) : Gv (F__law_digits cell base most) (fun v => (v.length : Int) = most ∧ ∀ x ∈ v, 0 ≤ x ∧ x < base) := by
  unfold F__law_digits
  refine Gv.bnd fun large _ => Gv.grd ⟨by omega, by omega⟩ (Gv.bind (Gv.forS (P := fun i s => s.2.length = i ∧ ∀ x ∈ s.2, 0 ≤ x ∧ x < base) ⟨rfl, fun x hx => by cases hx⟩ fun i x s hx p => ?_) fun s p => .ok ⟨?_, p.2⟩)
  · obtain ⟨rfl, hi⟩ := rng_at hx
    have hl := p.1
    unfold F__law_digits_b1
    refine Gv.ite (fun _ => Gv.grd h0 (Gv.grd (by omega) (Gv.bnd fun y hy => Gv.grd ⟨h0, by omega⟩ (Gv.bnd fun c _ => .ok ?_)))) fun _ => Gv.grd ?_ (Gv.grd ?_ (Gv.grd h0 (Gv.grd (by omega) (Gv.bnd fun y hy => .ok ?_))))
    · subst hy
      exact ⟨by rw [List.length_append, hl]; rfl, all_snoc p.2 ⟨Int.emod_nonneg _ (by omega), Int.emod_lt_of_pos _ h0⟩⟩
    · left
      omega
    · right
      omega
    · subst hy
      exact ⟨by rw [List.length_append, hl]; rfl, all_snoc p.2 ⟨Int.emod_nonneg _ (by omega), Int.emod_lt_of_pos _ h0⟩⟩
  · have := p.1
    rw [rng_len] at this
    omega
theorem itD_some {α : Type} [Inhabited α] {xs : List α} {k : Int} (h : -(xs.length : Int) ≤ k ∧ k < xs.length) : ∃ j : Nat, xs[j]? = some (itD xs k) := by
  obtain ⟨j, e, hj⟩ := ixN_some h
  refine ⟨j, ?_⟩
  unfold itD atI
  rw [e, List.getElem?_eq_getElem hj]
  show some xs[j] = some ((xs[j]?).getD default)
  rw [List.getElem?_eq_getElem hj] <;> rfl
theorem itD_mem {α : Type} [Inhabited α] {xs : List α} {k : Int} (h : -(xs.length : Int) ≤ k ∧ k < xs.length) : itD xs k ∈ xs := by
  obtain ⟨j, e⟩ := itD_some h
  exact List.mem_of_getElem? e
theorem itD_map {α β : Type} [Inhabited α] [Inhabited β] {xs : List α} {f : α → β} {k : Int} (h : -(xs.length : Int) ≤ k ∧ k < xs.length) : itD (xs.map f) k = f (itD xs k) := by
  obtain ⟨j, e, hj⟩ := ixN_some h
  unfold itD atI
  rw [List.length_map, e]
  show ((xs.map f)[j]?).getD default = f ((xs[j]?).getD default)
  rw [List.getElem?_map, List.getElem?_eq_getElem hj] <;> rfl
theorem itD_nat {α : Type} [Inhabited α] {xs : List α} {k : Int} {j : Nat} (e : k = (j : Int)) (h : j < xs.length) : itD xs k = xs[j] := by
  subst e
  unfold itD atI ixN
  rw [if_pos (by omega), if_pos (by omega)]
  show (xs[j]?).getD default = _
  rw [List.getElem?_eq_getElem h] <;> rfl
theorem setL_mem {α : Type} {xs : List α} {k : Int} {y z : α} (h : z ∈ setL xs k y) : z ∈ xs ∨ z = y := by
  unfold setL at h
  exact List.mem_or_eq_of_mem_set h
theorem setL_len {α : Type} {xs : List α} {k : Int} {y : α} : (setL xs k y).length = xs.length := by
  unfold setL
  rw [List.length_set]
/-! planes, samples between samples -/
/-! ### tables -/
section
variable {α : Type}
theorem rng_map_get {f : Int → α} {a : Int} {n i : Nat} (h : i < n) : ((rng a n).map f)[i]? = some (f (a + i)) := by rw [List.getElem?_map, rng_get h]; rfl
theorem rng_map_ext {f g : Int → α} {a b : Int} {n : Nat} (h : ∀ i : Nat, i < n → f (a + i) = g (b + i)) : (rng a n).map f = (rng b n).map g := by
  apply List.ext_getElem?
  intro i
  by_cases hi : i < n
  · rw [rng_map_get hi, rng_map_get hi, h i hi]
  · rw [List.getElem?_eq_none (by rw [List.length_map, rng_len]; omega), List.getElem?_eq_none (by rw [List.length_map, rng_len]; omega)]
theorem rng_map_itD [Inhabited α] {f : Int → α} {a k : Int} {n : Nat} (h0 : 0 ≤ k) (h1 : k < n) : itD ((rng a n).map f) k = f (a + k) := by
  obtain ⟨j, rfl⟩ : ∃ j : Nat, k = (j : Int) := ⟨k.toNat, by omega⟩
  have hl : j < ((rng a n).map f).length := by rw [List.length_map, rng_len]; omega
  have := rng_map_get (f := f) (a := a) (n := n) (i := j) (by omega)
  unfold itD
  rw [atI_nat this]
  rfl
theorem sIx_at {n d : Nat} {v : Int} (h0 : 0 ≤ v) (h1 : v ≤ n) : HT.sIx n d (some v) = v.toNat := by
  show (if v < 0 then (v + (n : Int)).toNat else min v.toNat n) = v.toNat
  rw [if_neg (by omega)]
  omega
theorem cut_tab {f : Int → α} {a s : Int} {n k : Nat} (h0 : 0 ≤ s) (h1 : s + k ≤ n) : cutL ((rng a n).map f) (some s) (some (s + k)) = (rng (a + s) k).map f := by
  have hl : ((rng a n).map f).length = n := by rw [List.length_map, rng_len]
  unfold cutL
  rw [hl, sIx_at h0 (by omega), sIx_at (by omega) h1]
  apply List.ext_getElem?
  intro i
  by_cases hi : i < k
  · rw [List.getElem?_take_of_lt (by omega), List.getElem?_drop, rng_map_get (by omega), rng_map_get hi]
    congr 2
    omega
  · rw [List.getElem?_eq_none (by rw [List.length_take, List.length_drop, hl]; omega), List.getElem?_eq_none (by rw [List.length_map, rng_len]; omega)]
theorem cut_tab1 {f : Int → α} {a : Int} {n : Nat} : cutL ((rng a (n + 1)).map f) (some 1) none = (rng (a + 1) n).map f := by
  have hl : ((rng a (n + 1)).map f).length = n + 1 := by rw [List.length_map, rng_len]
  unfold cutL
  rw [hl, sIx_at (by decide) (by omega), HT.sIx_none]
  apply List.ext_getElem?
  intro i
  by_cases hi : i < n
  · rw [List.getElem?_take_of_lt (by show i < n + 1 - 1; omega), List.getElem?_drop, rng_map_get (by show 1 + i < n + 1; omega), rng_map_get hi]
    congr 2
    show a + ((1 + i : Nat) : Int) = a + 1 + i
    omega
  · rw [List.getElem?_eq_none (by rw [List.length_take, List.length_drop, hl]; show min (n + 1 - 1) (n + 1 - 1) ≤ i; omega), List.getElem?_eq_none (by rw [List.length_map, rng_len]; omega)]
theorem zip_tab {f : Int → α} {a : Int} {n : Nat} : List.zip ((rng a (n + 1)).map f) (cutL ((rng a (n + 1)).map f) (some 1) none) = (rng a n).map fun c => (f c, f (c + 1)) := by
  rw [cut_tab1]
  apply List.ext_getElem?
  intro i
  by_cases hi : i < n
  · rw [rng_map_get hi]
    refine List.getElem?_zip_eq_some.mpr ⟨rng_map_get (by omega), ?_⟩
    rw [rng_map_get hi]
    congr 2
    omega
  · rw [List.getElem?_eq_none (by rw [List.length_zip, List.length_map, List.length_map, rng_len, rng_len]; omega), List.getElem?_eq_none (by rw [List.length_map, rng_len]; omega)]
theorem zip_tab2 {β : Type} {f : Int → α} {g : Int → β} {a : Int} {n : Nat} : List.zip ((rng a n).map f) ((rng a n).map g) = (rng a n).map fun c => (f c, g c) := by
  apply List.ext_getElem?
  intro i
  by_cases hi : i < n
  · rw [rng_map_get hi]
    exact List.getElem?_zip_eq_some.mpr ⟨rng_map_get hi, rng_map_get hi⟩
  · rw [List.getElem?_eq_none (by rw [List.length_zip, List.length_map, List.length_map, rng_len]; omega), List.getElem?_eq_none (by rw [List.length_map, rng_len]; omega)]
end
theorem itDn {α : Type} [Inhabited α] {xs : List α} {j : Nat} (h : j < xs.length) : itD xs (j : Int) = xs[j] := itD_nat rfl h
/-- a loop that makes a list item by item -/
theorem forS_list {α β : Type} {xs : List α} {f : List β → α → Rx (List β)} {g : α → β} (h : ∀ s x, x ∈ xs → s.length ≤ 1000000 → f s x = .ok (s ++ [g x])) : ∀ acc : List β, acc.length + xs.length ≤ 1000000 → forS xs acc f = .ok (acc ++ xs.map g) := by
  induction xs with
  | nil => intro acc _; simp [forS]
  | cons x r ih =>
    intro acc hl
    rw [List.length_cons] at hl
    show (f acc x).bind _ = _
    rw [h acc x List.mem_cons_self (by omega), bind_ok, ih (fun s y hy => h s y (List.mem_cons_of_mem _ hy)) (acc ++ [g x]) (by rw [List.length_append, List.length_cons, List.length_nil]; omega)]
    simp
/-! ### a plane -/
def Pl (w h top : Int) (M : List (List Int)) : Prop := 1 ≤ w ∧ 1 ≤ h ∧ (M.length : Int) = h ∧ (∀ r ∈ M, (r.length : Int) = w) ∧ ∀ r ∈ M, ∀ x ∈ r, 0 ≤ x ∧ x ≤ top
def cl (v hi : Int) : Int := if hi < (if 0 > v then 0 else v) then hi else (if 0 > v then 0 else v)
theorem cl_in {v hi : Int} (h : 0 ≤ hi) : 0 ≤ cl v hi ∧ cl v hi ≤ hi := by
  unfold cl
  split <;> split <;> omega
theorem cl_id {v hi : Int} (h0 : 0 ≤ v) (h1 : v ≤ hi) : cl v hi = v := by
  unfold cl
  rw [if_neg (show ¬ 0 > v by omega), if_neg (by omega)]
def val (w h : Int) (M : List (List Int)) (x y : Int) : Int := itD (itD M (cl y (h - 1))) (cl x (w - 1))
section
variable {w h top : Int} {M : List (List Int)}
theorem Pl.row (p : Pl w h top M) {y : Int} (h0 : 0 ≤ y) (h1 : y < h) : ((itD M y).length : Int) = w := by
  obtain ⟨_, _, hl, hr, _⟩ := p
  exact hr _ (itD_mem (by rw [hl]; omega))
theorem Pl.val (p : Pl w h top M) (x y : Int) : 0 ≤ val w h M x y ∧ val w h M x y ≤ top := by
  have h1 := cl_in (v := y) (hi := h - 1) (by have := p.2.1; omega)
  have h2 := cl_in (v := x) (hi := w - 1) (by have := p.1; omega)
  have hr := p.row (y := cl y (h - 1)) h1.1 (by omega)
  exact p.2.2.2.2 _ (itD_mem (by rw [p.2.2.1]; omega)) _ (itD_mem (by rw [hr]; omega))
end
theorem rep_one {v k x : Int} (h : x ∈ repL [v] k) : x = v := by
  unfold repL at h
  obtain ⟨l, hl, hx⟩ := List.mem_flatten.mp h
  rw [(List.mem_replicate.mp hl).2] at hx
  exact List.mem_singleton.mp hx
theorem rep_lenP {v k : Int} (h : 0 ≤ k) : ((repL [v] k).length : Int) = k := by
  unfold repL
  obtain ⟨j, rfl⟩ : ∃ j : Nat, k = (j : Int) := ⟨k.toNat, by omega⟩
  rw [Int.toNat_natCast]
  have : (List.replicate j [v]).flatten.length = j := by
    induction j with
    | zero => rfl
    | succ j ih =>
      rw [List.replicate_succ, List.flatten_cons, List.length_append, ih (by omega)]
      simp
      omega
  rw [this]
theorem one_4096 : -(2 ^ 4096) < (1 : Int) ∧ (1 : Int) < 2 ^ 4096 := by
  have h : (0 : Int) < 2 ^ 4095 := Int.pow_pos (by decide)
  have e : (2 : Int) ^ 4096 = 2 ^ 4095 * 2 := Int.pow_succ 2 4095
  generalize (2 : Int) ^ 4095 = z at h e
  generalize (2 : Int) ^ 4096 = y at e ⊢
  omega
theorem top_b {d : Int} (h0 : 0 ≤ d) (h1 : d < 5) : 255 ≤ 1 * 2 ^ Int.toNat (8 + d) - (1 : Int) ∧ 1 * 2 ^ Int.toNat (8 + d) - (1 : Int) ≤ 4095 := by
  have : d = 0 ∨ d = 1 ∨ d = 2 ∨ d = 3 ∨ d = 4 := by omega
  rcases this with rfl | rfl | rfl | rfl | rfl <;> decide
/-! sizes, shapes, frames (k03) -/
def zp (c a pl : Int) : Int := if 0 < pl ∧ c = 1 then (a + 1) / 2 else a
def up (a : Int) : Int := (a + 7) / 8 * 8
def nn (c : Int) : Nat := if c = 0 then 1 else 3
def zs (c a b : Int) : List (Int × Int) := (rng 0 (nn c)).map fun pl => (zp c a pl, zp c b pl)
theorem nn_in (c : Int) : nn c = 1 ∨ nn c = 3 := by unfold nn; split <;> simp
theorem nn_pos {c pl : Int} (h : 0 < pl) (h2 : pl < nn c) : c ≠ 0 := by
  rintro rfl
  have e : nn 0 = 1 := rfl
  rw [e] at h2
  omega
section
variable {w h d c : Int}
theorem planes_eq : F_Format_planes ⟨w, h, d, c⟩ = .ok (nn c : Int) := by
  unfold F_Format_planes nn
  show Rx.ok (if c = 0 then (1 : Int) else 3) = _
  by_cases q : c = 0
  · rw [if_pos q, if_pos q]
    rfl
  · rw [if_neg q, if_neg q]
    rfl
theorem psize_eq {pl a b : Int} (hp : 0 ≤ pl ∧ pl < nn c) : F_Format__plane_size ⟨w, h, d, c⟩ pl a b = .ok (zp c a pl, zp c b pl) := by
  unfold F_Format__plane_size
  rw [if_pos hp.1, planes_eq, noEr_ok, bind_ok, if_pos hp.2]
  unfold zp
  by_cases z : 0 < pl
  · rw [if_pos z]
    show (if c = 1 then _ else _) = _
    by_cases q : c = 1
    · rw [if_pos q, if_pos ⟨z, q⟩, if_pos ⟨z, q⟩]
    · rw [if_neg q, if_neg (fun x => q x.2), if_neg (fun x => q x.2)]
  · rw [if_neg z, if_neg (fun x => z x.1), if_neg (fun x => z x.1)]
theorem sizes_eq : F__sizes ⟨w, h, d, c⟩ = .ok (zs c w h) := by
  have n0 := nn_in c
  refine Gv.get ?_
  unfold F__sizes
  rw [planes_eq]
  refine Gv.bind_eq rfl (Gv.grd ⟨by omega, by omega⟩ ?_)
  rw [Int.toNat_natCast]
  refine Gv.bind_eq (mapA_pure0 (g := fun pl => (zp c w pl, zp c h pl)) (fun pl hp => ?_) (by rw [rng_len]; omega)) (.ok rfl)
  have := rng_mem hp
  unfold F__sizes_c1 F_Format_size
  show noEr (Rx.bind (Rx.bind (F_Format__plane_size ⟨w, h, d, c⟩ pl w h) _) _) = _
  rw [psize_eq ⟨this.1, by omega⟩]
  rfl
theorem coded_eq : F__coded_sizes ⟨w, h, d, c⟩ = .ok (zs c (up w) (up h)) := by
  have n0 := nn_in c
  refine Gv.get ?_
  unfold F__coded_sizes
  rw [planes_eq]
  refine Gv.bind_eq rfl (Gv.grd ⟨by omega, by omega⟩ ?_)
  rw [Int.toNat_natCast]
  refine Gv.bind_eq (mapA_pure0 (g := fun pl => (zp c (up w) pl, zp c (up h) pl)) (fun pl hp => ?_) (by rw [rng_len]; omega)) (.ok rfl)
  have := rng_mem hp
  unfold F__coded_sizes_c1 F_Format_coded_size F_Format_blocks
  show noEr (Rx.bind (Rx.bind (F_Format__plane_size ⟨w, h, d, c⟩ pl ((w + 8 - 1) / 8 * 8) ((h + 8 - 1) / 8 * 8)) _) _) = _
  rw [psize_eq ⟨this.1, by omega⟩, show w + 8 - 1 = w + 7 by omega, show h + 8 - 1 = h + 7 by omega]
  rfl
end
/-! ### shapes -/
theorem unit_ok {α : Type} {xs : List α} {f : Unit → α → Rx Unit} (h : ∀ x ∈ xs, f () x = .ok ()) : forS xs () f = .ok () := by
  induction xs with
  | nil => rfl
  | cons x r ih =>
    show (f () x).bind _ = _
    rw [h x List.mem_cons_self, bind_ok]
    exact ih fun y hy => h y (List.mem_cons_of_mem _ hy)
theorem unit_er {α : Type} {e : Nat} {xs : List α} {f : Unit → α → Rx Unit} (h : ∀ x ∈ xs, f () x = .ok () ∨ f () x = .er e) (h2 : ∃ x ∈ xs, f () x = .er e) : forS xs () f = .er e := by
  induction xs with
  | nil => obtain ⟨x, hx, _⟩ := h2; cases hx
  | cons x r ih =>
    show (f () x).bind _ = _
    rcases h x List.mem_cons_self with q | q
    · rw [q, bind_ok]
      refine ih (fun y hy => h y (List.mem_cons_of_mem _ hy)) ?_
      obtain ⟨y, hy, hz⟩ := h2
      rcases List.mem_cons.mp hy with rfl | hy
      · rw [q] at hz; cases hz
      · exact ⟨y, hy, hz⟩
    · rw [q]; rfl
/-- the shape of a plane -/
def Sh (x y : Int) (M : List (List Int)) : Prop := (M.length : Int) = y ∧ ∀ r ∈ M, (r.length : Int) = x
theorem any_eq {M : List (List Int)} {x : Int} (hl : M.length ≤ 1000000) : mapA M [] (fun r => noEr (F__check_shape_c2 x r)) = .ok (M.map fun r => !decide ((r.length : Int) = x)) :=
  mapA_pure0 (g := fun r : List Int => !decide ((r.length : Int) = x)) (fun r _ => rfl) hl
theorem b1_ok {M : List (List Int)} {x y : Int} (h : Sh x y M) (hl : M.length ≤ 1000000) : F__check_shape_b1 (M, (x, y)) = .ok () := by
  unfold F__check_shape_b1
  show (if (M.length : Int) = y then Rx.bind (mapA M [] (fun r => noEr (F__check_shape_c2 x r))) _ else _) = _
  rw [if_pos h.1, any_eq hl, bind_ok, if_neg]
  intro q
  obtain ⟨b, hb, e⟩ := List.any_eq_true.mp q
  obtain ⟨r, hr, rfl⟩ := List.mem_map.mp hb
  have := h.2 r hr
  simp [this] at e
theorem b1_er {M : List (List Int)} {x y : Int} (h : (M.length : Int) ≠ y ∨ ∃ r ∈ M, (r.length : Int) ≠ x) (hl : M.length ≤ 1000000) : F__check_shape_b1 (M, (x, y)) = .er 2 := by
  unfold F__check_shape_b1
  show (if (M.length : Int) = y then Rx.bind (mapA M [] (fun r => noEr (F__check_shape_c2 x r))) _ else _) = _
  by_cases q : (M.length : Int) = y
  · rw [if_pos q, any_eq hl, bind_ok, if_pos]
    rcases h with h | ⟨r, hr, e⟩
    · exact absurd q h
    · exact List.any_eq_true.mpr ⟨_, List.mem_map.mpr ⟨r, hr, rfl⟩, by simp [e]⟩
  · rw [if_neg q]
theorem list_tab {α : Type} [Inhabited α] {R : List α} {n : Nat} (h : R.length = n) : R = (rng 0 n).map fun k => itD R k := by
  apply List.ext_getElem?
  intro k
  by_cases q : k < n
  · rw [rng_map_get q, List.getElem?_eq_getElem (by omega)]
    congr 1
    rw [show (0 : Int) + (k : Int) = (k : Int) by omega, itDn (by omega)]
  · rw [List.getElem?_eq_none (by omega), List.getElem?_eq_none (by rw [List.length_map, rng_len]; omega)]
/-- planes of a shape, with samples up to t -/
structure Fr (c a b t : Int) (R : List (List (List Int))) : Prop where
  len : R.length = nn c
  pl : ∀ k : Int, 0 ≤ k → k < nn c → Pl (zp c a k) (zp c b k) t (itD R k)
theorem zip_zs {c a b : Int} {R : List (List (List Int))} (h : R.length = nn c) : List.zip R (zs c a b) = (rng 0 (nn c)).map fun k => (itD R k, (zp c a k, zp c b k)) := by
  have e := list_tab h
  unfold zs
  rw [show List.zip R ((rng 0 (nn c)).map fun pl => (zp c a pl, zp c b pl)) = List.zip ((rng 0 (nn c)).map fun k => itD R k) ((rng 0 (nn c)).map fun pl => (zp c a pl, zp c b pl)) from by rw [← e], zip_tab2]
theorem zs_len {c a b : Int} : (zs c a b).length = nn c := by unfold zs; rw [List.length_map, rng_len]
theorem shape_ok {c a b : Int} {R : List (List (List Int))} (hl : R.length = nn c) (h : ∀ k : Int, 0 ≤ k → k < nn c → Sh (zp c a k) (zp c b k) (itD R k) ∧ (itD R k).length ≤ 1000000) : F__check_shape R (zs c a b) = .ok () := by
  unfold F__check_shape
  rw [zs_len, hl, if_pos rfl, zip_zs hl, unit_ok (fun x hx => ?_)]
  · rfl
  obtain ⟨k, hk, rfl⟩ := List.mem_map.mp hx
  have := rng_mem hk
  obtain ⟨s, l⟩ := h k this.1 (by omega)
  exact b1_ok s l
theorem shape_er0 {c a b : Int} {R : List (List (List Int))} (hl : R.length ≠ nn c) : F__check_shape R (zs c a b) = .er 2 := by
  unfold F__check_shape
  rw [zs_len, if_neg (by omega)]
theorem shape_er {c a b : Int} {R : List (List (List Int))} (hl : R.length = nn c) (h : ∀ k : Int, 0 ≤ k → k < nn c → (itD R k).length ≤ 1000000) {k : Int} (k0 : 0 ≤ k) (k1 : k < nn c) (hb : ((itD R k).length : Int) ≠ zp c b k ∨ ∃ r ∈ itD R k, (r.length : Int) ≠ zp c a k) : F__check_shape R (zs c a b) = .er 2 := by
  have hm : k ∈ rng 0 (nn c) := by
    unfold rng
    exact List.mem_map.mpr ⟨k.toNat, List.mem_range.mpr (by omega), by omega⟩
  have er : forS ((rng 0 (nn c)).map fun k => (itD R k, (zp c a k, zp c b k))) () (fun _ x => F__check_shape_b1 x) = .er 2 := by
    refine unit_er (fun x hx => ?_) ⟨_, List.mem_map.mpr ⟨k, hm, rfl⟩, b1_er hb (h k k0 k1)⟩
    obtain ⟨j, hj, rfl⟩ := List.mem_map.mp hx
    have q := rng_mem hj
    have l := h j q.1 (by omega)
    by_cases z : Sh (zp c a j) (zp c b j) (itD R j)
    · exact .inl (b1_ok z l)
    · refine .inr (b1_er ?_ l)
      by_cases y : ((itD R j).length : Int) = zp c b j
      · exact .inr (Classical.byContradiction fun n => z ⟨y, fun r hr => Classical.byContradiction fun e => n ⟨r, hr, e⟩⟩)
      · exact .inl y
  unfold F__check_shape
  rw [zs_len, hl, if_pos rfl, zip_zs hl, er]
  rfl
/-! ### frames padded and cropped -/
def tp (d : Int) : Int := 1 * 2 ^ Int.toNat d - 1
def padP (M : List (List Int)) (A B : Int) : List (List Int) := (M.map fun r => r ++ repL [itD r (-1)] (A - r.length)) ++ (rng 0 (Int.toNat (B - M.length))).map fun _ => itD (M.map fun r => r ++ repL [itD r (-1)] (A - r.length)) (-1)
section
variable {x y t A B : Int} {M : List (List Int)}
theorem rep1_len (v k : Int) : (repL [v] k).length = k.toNat := by rw [repL_len]; simp
theorem pad_eq (p : Pl x y t M) (hx : x ≤ A ∧ A ≤ 1000) (hy : y ≤ B ∧ B ≤ 1000) : F__pad_plane M (A, B) = .ok (padP M A B) := by
  obtain ⟨x1, y1, hM, hr, _⟩ := p
  refine Gv.get ?_
  unfold F__pad_plane
  refine Gv.bind_eq (mapA_pure0 (g := fun r : List Int => r ++ repL [itD r (-1)] (A - r.length)) (fun r hrm => ?_) (by omega)) ?_
  · have l := hr r hrm
    refine Gv.get (Gv.noEr ?_)
    unfold F__pad_plane_c1
    exact Gv.grd ⟨by omega, by omega⟩ (Gv.grd ⟨by show -(2 ^ 63) ≤ A - (r.length : Int); omega, by show A - (r.length : Int) < 2 ^ 63; omega, by show 1 * _ ≤ _; omega⟩ (Gv.grd (by rw [rep1_len]; omega) (.ok rfl)))
  have ml : ((M.map fun r => r ++ repL [itD r (-1)] (A - r.length)).length : Int) = y := by rw [List.length_map]; exact hM
  rw [ml]
  refine Gv.grd ⟨by show -(2 ^ 62) ≤ B - y; omega, by show B - y < 2 ^ 62; omega⟩ (Gv.bind_eq (mapA_pure0 (g := fun _ => itD (M.map fun r => r ++ repL [itD r (-1)] (A - r.length)) (-1)) (fun k _ => ?_) (by rw [rng_len]; show (B - y).toNat ≤ _; omega)) (Gv.grd (by rw [List.length_map, List.length_map, rng_len]; show M.length + (B - y).toNat ≤ _; omega) (.ok ?_)))
  · refine Gv.get (Gv.noEr ?_)
    unfold F__pad_plane_c2
    exact Gv.grd (by rw [ml]; omega) (.ok rfl)
  · unfold padP
    rw [hM]
theorem pad_pl (p : Pl x y t M) (hx : x ≤ A) (hy : y ≤ B) : Pl A B t (padP M A B) := by
  obtain ⟨x1, y1, hM, hr, hv⟩ := p
  have rowl : ∀ r ∈ M.map (fun r => r ++ repL [itD r (-1)] (A - r.length)), (r.length : Int) = A ∧ ∀ z ∈ r, 0 ≤ z ∧ z ≤ t := fun r h => by
    obtain ⟨q, hq, rfl⟩ := List.mem_map.mp h
    have l := hr q hq
    refine ⟨by rw [List.length_append, rep1_len]; omega, fun z hz => ?_⟩
    rcases List.mem_append.mp hz with hz | hz
    · exact hv q hq z hz
    · rw [rep_one hz]
      exact hv q hq _ (itD_mem (by omega))
  have ml : ((M.map fun r => r ++ repL [itD r (-1)] (A - r.length)).length : Int) = y := by rw [List.length_map]; exact hM
  have last : itD (M.map fun r => r ++ repL [itD r (-1)] (A - r.length)) (-1) ∈ M.map fun r => r ++ repL [itD r (-1)] (A - r.length) := itD_mem (by rw [ml]; omega)
  have mem : ∀ r ∈ padP M A B, r ∈ M.map fun r => r ++ repL [itD r (-1)] (A - r.length) := fun r h => by
    unfold padP at h
    rcases List.mem_append.mp h with h | h
    · exact h
    · obtain ⟨_, _, rfl⟩ := List.mem_map.mp h
      exact last
  exact ⟨by omega, by omega, by unfold padP; rw [List.length_append, List.length_map, List.length_map, rng_len]; omega, fun r h => (rowl r (mem r h)).1, fun r h => (rowl r (mem r h)).2⟩
end
theorem up_in {a : Int} (h : 1 ≤ a ∧ a ≤ 20) : a ≤ up a ∧ 8 ≤ up a ∧ up a ≤ 24 := by unfold up; omega
theorem zp_in {c a pl l u : Int} (h : l ≤ a ∧ a ≤ u) (h1 : 1 ≤ l) : (l + 1) / 2 ≤ zp c a pl ∧ zp c a pl ≤ u := by unfold zp; split <;> omega
theorem zp_le {c a b pl : Int} (h : a ≤ b) : zp c a pl ≤ zp c b pl := by unfold zp; split <;> omega
theorem tp_in {d : Int} (h : 8 ≤ d ∧ d ≤ 12) : 255 ≤ tp d ∧ tp d ≤ 4095 := by
  have := top_b (d := d - 8) (by omega) (by omega)
  rw [show 8 + (d - 8) = d by omega] at this
  exact this
section
variable {w h d c t : Int} {R : List (List (List Int))}
theorem fr_sh {a b : Int} (f : Fr c a b t R) (hb : b ≤ 1000) (k : Int) (k0 : 0 ≤ k) (k1 : k < nn c) : Sh (zp c a k) (zp c b k) (itD R k) ∧ (itD R k).length ≤ 1000000 := by
  have p := f.pl k k0 k1
  have z : zp c b k ≤ b ∨ b ≤ 0 := by unfold zp; split <;> omega
  refine ⟨⟨p.2.2.1, p.2.2.2.1⟩, ?_⟩
  have := p.2.1
  have hM := p.2.2.1
  have : zp c b k ≤ 1000 ∨ zp c b k ≤ 0 := by unfold zp; split <;> omega
  omega
theorem fr_mem {a b : Int} (f : Fr c a b t R) {M : List (List Int)} (hM : M ∈ R) : ∃ k : Int, 0 ≤ k ∧ k < nn c ∧ M = itD R k := by
  obtain ⟨j, hj⟩ := List.mem_iff_getElem?.mp hM
  have hl := get_len hj
  refine ⟨j, by omega, by have := f.len; omega, ?_⟩
  rw [itDn hl]
  rw [List.getElem?_eq_getElem hl] at hj
  exact (Option.some.inj hj).symm
theorem frame_ok (f : Fr c w h (tp d) R) (hd : 8 ≤ d ∧ d ≤ 12) (hh : h ≤ 1000) : F_check_frame ⟨w, h, d, c⟩ R = .ok () := by
  have ht := tp_in hd
  have et : F_Format_top ⟨w, h, d, c⟩ = .ok (tp d) := by
    unfold F_Format_top
    exact Gv.get (Gv.grd ⟨by show 0 ≤ d; omega, by show d ≤ 4096; omega, one_4096⟩ (.ok rfl))
  have b2 : ∀ r : List Int, r ≠ [] → (∀ x ∈ r, 0 ≤ x ∧ x ≤ tp d) → F_check_frame_b2 ⟨w, h, d, c⟩ r = .ok () := fun r hr hx => by
    have a := hx _ (minL_spec r hr).1
    have b := hx _ (maxL_spec r hr).1
    unfold F_check_frame_b2
    rw [grd_pos hr, if_neg (by omega), grd_pos hr, et, noEr_ok, bind_ok, if_neg (by omega)]
  unfold F_check_frame
  rw [sizes_eq, bind_ok, shape_ok f.len (fr_sh f hh), bind_ok, unit_ok (fun M hM => ?_)]
  · rfl
  obtain ⟨k, k0, k1, rfl⟩ := fr_mem f hM
  have p := f.pl k k0 k1
  have hne : ∀ r ∈ itD R k, r ≠ [] := fun r hr e => by
    have l := p.2.2.2.1 r hr
    have l1 := p.1
    rw [e] at l
    have : (([] : List Int).length : Int) = 0 := rfl
    omega
  unfold F_check_frame_b1
  rw [unit_ok (fun r hr => b2 r (hne r hr) (p.2.2.2.2 r hr))]
  rfl
def PF (w h c : Int) (R : List (List (List Int))) : List (List (List Int)) := (rng 0 (nn c)).map fun k => padP (itD R k) (zp c (up w) k) (zp c (up h) k)
theorem tab_at {g : Int → List (List Int)} {k : Int} (k0 : 0 ≤ k) (k1 : k < nn c) : itD ((rng 0 (nn c)).map g) k = g k := by
  rw [rng_map_itD k0 (by omega), Int.zero_add]
theorem pf_eq (f : Fr c w h (tp d) R) (hw : 1 ≤ w ∧ w ≤ 20) (hh : 1 ≤ h ∧ h ≤ 20) (hd : 8 ≤ d ∧ d ≤ 12) : F_pad_frame ⟨w, h, d, c⟩ R = .ok (PF w h c R) := by
  have n0 := nn_in c
  have uw := up_in hw
  have uh := up_in hh
  unfold F_pad_frame
  rw [frame_ok f hd (by omega), bind_ok, coded_eq, bind_ok, zip_zs f.len]
  have e : mapA ((rng 0 (nn c)).map fun k => (itD R k, (zp c (up w) k, zp c (up h) k))) [] (fun x => noEr (F_pad_frame_c1 x)) = .ok (((rng 0 (nn c)).map fun k => (itD R k, (zp c (up w) k, zp c (up h) k))).map fun x => padP x.1 x.2.1 x.2.2) := by
    refine mapA_pure0 (fun x hx => ?_) (by rw [List.length_map, rng_len]; omega)
    obtain ⟨k, hk, rfl⟩ := List.mem_map.mp hx
    have q := rng_mem hk
    unfold F_pad_frame_c1
    show noEr (Rx.bind (F__pad_plane (itD R k) (zp c (up w) k, zp c (up h) k)) _) = _
    have z1 := zp_in (c := c) (pl := k) (l := 8) (u := 24) (a := up w) (by omega) (by omega)
    have z2 := zp_in (c := c) (pl := k) (l := 8) (u := 24) (a := up h) (by omega) (by omega)
    rw [pad_eq (f.pl k q.1 (by omega)) ⟨zp_le uw.1, by omega⟩ ⟨zp_le uh.1, by omega⟩]
    rfl
  rw [e, List.map_map]
  rfl
theorem pf_fr (f : Fr c w h t R) (hw : 1 ≤ w ∧ w ≤ 20) (hh : 1 ≤ h ∧ h ≤ 20) : Fr c (up w) (up h) t (PF w h c R) := by
  refine ⟨by unfold PF; rw [List.length_map, rng_len], fun k k0 k1 => ?_⟩
  unfold PF
  rw [tab_at k0 k1]
  exact pad_pl (f.pl k k0 k1) (zp_le (up_in hw).1) (zp_le (up_in hh).1)
end
/-! the planes that a law draws (_law_planes) -/
theorem cod_eq {w h d c pl : Int} (k0 : 0 ≤ pl) (k1 : pl < nn c) : F_Format_coded_size ⟨w, h, d, c⟩ pl = .ok (zp c (up w) pl, zp c (up h) pl) := by
  unfold F_Format_coded_size F_Format_blocks
  show Rx.bind (F_Format__plane_size ⟨w, h, d, c⟩ pl ((w + 8 - 1) / 8 * 8) ((h + 8 - 1) / 8 * 8)) _ = _
  rw [psize_eq ⟨k0, k1⟩, show w + 8 - 1 = w + 7 by omega, show h + 8 - 1 = h + 7 by omega]
  rfl
theorem lplanes_gv {w h d c top cell : Int} (hw : 1 ≤ w ∧ w ≤ 1000) (hh : 1 ≤ h ∧ h ≤ 1000) (ht : 0 ≤ top ∧ top ≤ 4095) (h0 : 0 ≤ cell) : Gv (F__law_planes cell ⟨w, h, d, c⟩ top) (Fr c (up w) (up h) top) := by
  have n0 := nn_in c
  have uw : 8 ≤ up w ∧ up w ≤ 1007 := by unfold up; omega
  have uh : 8 ≤ up h ∧ up h ≤ 1007 := by unfold up; omega
  unfold F__law_planes
  refine Gv.bind_eq (a := (nn c : Int)) (by rw [planes_eq]; rfl) (Gv.grd ⟨by omega, by omega⟩ ?_)
  rw [Int.toNat_natCast]
  refine Gv.bind (Gv.forS (P := fun i s => s.length = i ∧ ∀ j : Nat, j < i → Pl (zp c (up w) j) (zp c (up h) j) top (itD s j)) ⟨rfl, fun j hj => absurd hj (Nat.not_lt_zero _)⟩ fun i x s hx p => ?_) fun s p => .ok ⟨by rw [p.1, rng_len], fun k k0 k1 => ?_⟩
  · obtain ⟨rfl, hi⟩ := rng_at hx
    rw [Int.zero_add]
    have z1 := zp_in (c := c) (pl := (i : Int)) uw (by omega)
    have z2 := zp_in (c := c) (pl := (i : Int)) uh (by omega)
    unfold F__law_planes_b1
    refine Gv.bind_eq (cod_eq (by omega) (by omega)) (Gv.bind (digits_gv _ _ _ (by omega) (by omega) (by decide) (by decide)) fun ds hds => Gv.grd ⟨by show -(2 ^ 62) ≤ zp c (up h) i; omega, by show zp c (up h) i < 2 ^ 62; omega⟩ ?_)
    show Gv (Rx.bind (forS (rng 0 (Int.toNat (zp c (up h) i))) _ _) _) _
    refine Gv.bind (Gv.forS (P := fun j s => s.length = j ∧ ∀ r ∈ s, (r.length : Int) = zp c (up w) i ∧ ∀ z ∈ r, 0 ≤ z ∧ z ≤ top) ⟨rfl, fun r hr => nomatch hr⟩ fun j y rs hy q => ?_) fun rs q => ?_
    · obtain ⟨rfl, hj⟩ := rng_at hy
      have fin : ∀ g : Int → Int, (∀ z, 0 ≤ g z ∧ g z ≤ top) → Gv (grd (rs.length ≤ 1000000) <| bnd (rs ++ [(rng 0 (Int.toNat (zp c (up w) i))).map g]) fun y => .ok y) (fun s => s.length = j + 1 ∧ ∀ r ∈ s, (r.length : Int) = zp c (up w) i ∧ ∀ z ∈ r, 0 ≤ z ∧ z ≤ top) := fun g hg => by
        refine Gv.grd (by have := q.1; omega) (Gv.bnd fun y hy => .ok ?_)
        subst hy
        refine ⟨by rw [List.length_append, q.1]; rfl, fun r hr => ?_⟩
        rcases List.mem_append.mp hr with hr | hr
        · exact q.2 r hr
        · rw [List.mem_singleton.mp hr]
          refine ⟨by rw [List.length_map, rng_len]; omega, fun z hz => ?_⟩
          obtain ⟨a, _, rfl⟩ := List.mem_map.mp hz
          exact hg a
      have gw : -(2 ^ 62) ≤ ((zp c (up w) i, zp c (up h) i) : Int × Int).1 ∧ ((zp c (up w) i, zp c (up h) i) : Int × Int).1 < 2 ^ 62 := ⟨by show -(2 ^ 62) ≤ zp c (up w) i; omega, by show zp c (up w) i < 2 ^ 62; omega⟩
      have em : ∀ x : Int, 0 ≤ x % (top + 1) ∧ x % (top + 1) ≤ top := fun x => by
        have a := Int.emod_nonneg x (show top + 1 ≠ 0 by omega)
        have b := Int.emod_lt_of_pos x (show 0 < top + 1 by omega)
        omega
      unfold F__law_planes_b2
      refine Gv.ite (fun _ => Gv.grd gw (Gv.bind_eq (mapA_pure0 (g := fun a => itD ds ((7 * (0 + (j : Int)) + a) % 24)) (fun a _ => ?_) (by rw [rng_len]; show (zp c (up w) i).toNat ≤ _; omega)) ?_)) fun _ => Gv.ite (fun _ => Gv.grd gw (Gv.bind_eq (mapA_pure0 (g := fun a => (cell + 9 * a + 5 * (0 + (j : Int))) % (top + 1)) (fun a _ => ?_) (by rw [rng_len]; show (zp c (up w) i).toNat ≤ _; omega)) (fin _ fun z => em _))) fun _ => Gv.grd gw (Gv.bind_eq (mapA_pure0 (g := fun a => (itD ds 0 + (a / 3 + (0 + (j : Int)) / 3) * 40) % (top + 1)) (fun a _ => ?_) (by rw [rng_len]; show (zp c (up w) i).toNat ≤ _; omega)) (fin _ fun z => em _))
      · unfold F__law_planes_c3
        rw [grd_pos (by omega)]
        rfl
      · refine fin _ fun z => ?_
        have m := hds.2 _ (itD_mem (xs := ds) (k := (7 * (0 + (j : Int)) + z) % 24) (by omega))
        omega
      · unfold F__law_planes_c4
        rw [grd_pos (by omega)]
        rfl
      · unfold F__law_planes_c5
        rw [grd_pos (by omega), grd_pos (by omega)]
        rfl
    · unfold F__law_planes_r2
      refine Gv.grd (by have := p.1; omega) (Gv.bnd fun y hy => .ok ?_)
      subst hy
      refine ⟨by rw [List.length_append, p.1]; rfl, fun j hj => ?_⟩
      by_cases e : j = i
      · subst e
        have l : j < (s ++ [rs]).length := by rw [List.length_append, p.1]; show j < j + 1; omega
        rw [itDn l, List.getElem_append_right (by rw [p.1]; exact Nat.le_refl _)]
        have q1 := q.1
        rw [rng_len] at q1
        have : (s ++ [rs])[j]'l = rs := by rw [List.getElem_append_right (by rw [p.1]; exact Nat.le_refl _)]; simp
        simp only [p.1, Nat.sub_self, List.getElem_cons_zero]
        exact ⟨by omega, by omega, by omega, fun r hr => (q.2 r hr).1, fun r hr => (q.2 r hr).2⟩
      · have hji : j < i := by omega
        have l1 : j < s.length := by rw [p.1]; exact hji
        have l : j < (s ++ [rs]).length := by rw [List.length_append]; omega
        rw [itDn l, List.getElem_append_left l1, ← itDn l1]
        exact p.2 j hji
  · rw [rng_len] at p
    obtain ⟨j, rfl⟩ : ∃ j : Nat, k = (j : Int) := ⟨k.toNat, by omega⟩
    exact p.2 j (by omega)
/-! middle planes (k59) -/
theorem rep_eq (s k : Int) : repL [s] k = List.replicate k.toNat s := by
  unfold repL
  generalize k.toNat = n
  induction n with
  | zero => rfl
  | succ n ih => rw [List.replicate_succ, List.flatten_cons, ih, List.replicate_succ]; rfl
theorem rng_const {α : Type} (n : Nat) (X : α) : (rng 0 n).map (fun _ => X) = List.replicate n X := by
  have e : (rng 0 n).length = n := rng_len 0 n
  conv => rhs; rw [← e]
  exact List.map_const' ..
def flP (s a b : Int) : List (List Int) := List.replicate b.toNat (List.replicate a.toNat s)
def mid (c d a b : Int) : List (List (List Int)) := (rng 0 (nn c)).map fun k => flP (1 * 2 ^ Int.toNat (d - 1)) (zp c a k) (zp c b k)
theorem flP_pl {s a b t : Int} (ha : 1 ≤ a) (hb : 1 ≤ b) (hs : 0 ≤ s ∧ s ≤ t) : Pl a b t (flP s a b) := by
  refine ⟨ha, hb, by unfold flP; rw [List.length_replicate]; omega, fun r hr => ?_, fun r hr x hx => ?_⟩
  · rw [(List.mem_replicate.mp hr).2, List.length_replicate]; omega
  · rw [(List.mem_replicate.mp hr).2] at hx
    rw [(List.mem_replicate.mp hx).2]
    exact hs
theorem pad_flat {s a b A B : Int} (ha : 1 ≤ a ∧ a ≤ A) (hb : 1 ≤ b ∧ b ≤ B) : padP (flP s a b) A B = flP s A B := by
  have row : ∀ r ∈ flP s a b, r ++ repL [itD r (-1)] (A - r.length) = List.replicate A.toNat s := fun r hr => by
    have e := (List.mem_replicate.mp hr).2
    subst e
    have m := itD_mem (xs := List.replicate a.toNat s) (k := -1) (by rw [List.length_replicate]; omega)
    rw [(List.mem_replicate.mp m).2, rep_eq, List.length_replicate, List.replicate_append_replicate]
    congr 1
    omega
  have e : (flP s a b).map (fun r => r ++ repL [itD r (-1)] (A - r.length)) = List.replicate b.toNat (List.replicate A.toNat s) := by
    rw [List.map_congr_left (g := fun _ => List.replicate A.toNat s) row, List.map_const']
    unfold flP
    rw [List.length_replicate]
  unfold padP
  rw [e, rng_const]
  have m := itD_mem (xs := List.replicate b.toNat (List.replicate A.toNat s)) (k := -1) (by rw [List.length_replicate]; omega)
  rw [(List.mem_replicate.mp m).2, List.replicate_append_replicate]
  unfold flP
  rw [List.length_replicate]
  congr 1
  omega
theorem half_in {d : Int} (h : 8 ≤ d ∧ d ≤ 12) : 0 ≤ (1 : Int) * 2 ^ Int.toNat (d - 1) ∧ (1 : Int) * 2 ^ Int.toNat (d - 1) ≤ tp d := by
  have : d = 8 ∨ d = 9 ∨ d = 10 ∨ d = 11 ∨ d = 12 := by omega
  rcases this with rfl | rfl | rfl | rfl | rfl <;> decide
section
variable {w h d c : Int}
theorem mid_fr (hw : 1 ≤ w) (hh : 1 ≤ h) (hd : 8 ≤ d ∧ d ≤ 12) : Fr c w h (tp d) (mid c d w h) := by
  refine ⟨by unfold mid; rw [List.length_map, rng_len], fun k k0 k1 => ?_⟩
  unfold mid
  rw [tab_at k0 k1]
  have z1 := zp_in (c := c) (pl := k) (l := 1) (u := w) (a := w) ⟨hw, by omega⟩ (by omega)
  have z2 := zp_in (c := c) (pl := k) (l := 1) (u := h) (a := h) ⟨hh, by omega⟩ (by omega)
  exact flP_pl (by omega) (by omega) (half_in hd)
theorem pf_mid (hw : 1 ≤ w ∧ w ≤ 20) (hh : 1 ≤ h ∧ h ≤ 20) : PF w h c (mid c d w h) = mid c d (up w) (up h) := by
  refine List.map_congr_left fun k hk => ?_
  have q := rng_mem hk
  unfold mid
  rw [tab_at q.1 (by omega)]
  have z1 := zp_in (c := c) (pl := k) (l := 1) (u := 20) (a := w) ⟨hw.1, hw.2⟩ (by omega)
  have z2 := zp_in (c := c) (pl := k) (l := 1) (u := 20) (a := h) ⟨hh.1, hh.2⟩ (by omega)
  exact pad_flat ⟨by omega, zp_le (up_in hw).1⟩ ⟨by omega, zp_le (up_in hh).1⟩
theorem sh_ok {d : Int} (hd : 8 ≤ d ∧ d ≤ 12) : (0 : Int) ≤ d - 1 ∧ ((d - 1 : Int) : Int) ≤ 4096 ∧ -(2 ^ 4096) < (1 : Int) ∧ (1 : Int) < 2 ^ 4096 := ⟨by omega, by omega, one_4096⟩
theorem flat_eq (hw : 1 ≤ w ∧ w ≤ 1000) (hh : 1 ≤ h ∧ h ≤ 1000) (hd : 8 ≤ d ∧ d ≤ 12) : F_flat_frame ⟨w, h, d, c⟩ (encN ()) = .ok (mid c d w h) := by
  have hf := half_in hd
  have ht := tp_in hd
  have n0 := nn_in c
  have et : F_Format_top ⟨w, h, d, c⟩ = .ok (tp d) := by
    unfold F_Format_top
    exact Gv.get (Gv.grd ⟨by show 0 ≤ d; omega, by show d ≤ 4096; omega, one_4096⟩ (.ok rfl))
  have em : F_Format_middle ⟨w, h, d, c⟩ = .ok (1 * 2 ^ Int.toNat (d - 1)) := by
    unfold F_Format_middle
    exact Gv.get (Gv.grd (sh_ok hd) (.ok rfl))
  unfold F_flat_frame
  rw [if_pos (by rfl), em, noEr_ok, bind_ok, if_pos hf.1, et, noEr_ok, bind_ok, if_pos hf.2, sizes_eq, bind_ok]
  have e := forS_list (xs := zs c w h) (f := fun s x => F_flat_frame_b1 (1 * 2 ^ Int.toNat (d - 1)) s x) (g := fun q => flP (1 * 2 ^ Int.toNat (d - 1)) q.1 q.2) (fun s x hx hl => ?_) [] (by rw [zs_len]; show 0 + _ ≤ _; omega)
  · rw [e, bind_ok]
    unfold F_flat_frame_r1 zs mid
    rw [List.map_map]
    rfl
  obtain ⟨k, hk, rfl⟩ := List.mem_map.mp hx
  have q := rng_mem hk
  have z1 := zp_in (c := c) (pl := k) (l := 1) (u := 1000) (a := w) ⟨hw.1, hw.2⟩ (by omega)
  have z2 := zp_in (c := c) (pl := k) (l := 1) (u := 1000) (a := h) ⟨hh.1, hh.2⟩ (by omega)
  refine Gv.get ?_
  unfold F_flat_frame_b1
  refine Gv.grd ⟨by show -(2 ^ 62) ≤ zp c h k; omega, by show zp c h k < 2 ^ 62; omega⟩ (Gv.bind_eq (mapA_pure0 (g := fun _ => List.replicate (zp c w k).toNat (1 * 2 ^ Int.toNat (d - 1))) (fun a _ => ?_) (by rw [rng_len]; show (zp c h k).toNat ≤ _; omega)) (Gv.grd hl (Gv.bnd fun y hy => .ok (hy.trans ?_))))
  · unfold F_flat_frame_c2
    show noEr (grd (-(2 ^ 63) ≤ zp c w k ∧ zp c w k < 2 ^ 63 ∧ _) (.ok (repL _ (zp c w k)))) = _
    rw [grd_pos ⟨by omega, by omega, by show 1 * _ ≤ _; omega⟩, rep_eq]
    rfl
  · rw [rng_const]
    rfl
theorem middle_eq (hw : 1 ≤ w ∧ w ≤ 20) (hh : 1 ≤ h ∧ h ≤ 20) (hd : 8 ≤ d ∧ d ≤ 12) : F_middle_planes ⟨w, h, d, c⟩ = .ok (mid c d (up w) (up h)) := by
  unfold F_middle_planes
  rw [flat_eq ⟨hw.1, by omega⟩ ⟨hh.1, by omega⟩ hd, bind_ok, pf_eq (mid_fr hw.1 hh.1 hd) hw hh hd, pf_mid hw hh]
  rfl
end
abbrev rqE : Nat := 4
/-! ### headers of pictures -/
def rq (b : Bool) : Rx Unit := if b = true then .ok () else .er rqE
theorem rq_req (b : Bool) (t : Str) : F__require b t = rq b := rfl
theorem rq_bind (a b : Bool) {f : Unit → Rx Unit} (h : f () = rq b) : (rq a).bind f = rq (a && b) := by
  cases a
  · rfl
  · show f () = _
    rw [h]
    rfl
theorem rq_if {p : Prop} [Decidable p] (b : Bool) (t : Str) : (if p then (F__require b t).bind fun _ => .ok () else (F__require false t).bind fun _ => .ok () : Rx Unit) = rq (decide p && b) := by
  by_cases h : p
  · rw [if_pos h, decide_eq_true h]
    cases b <;> rfl
  · rw [if_neg h, decide_eq_false h]
    rfl
theorem rq_or {c : Bool} (b : Bool) (t : Str) : (if c = true then (F__require true t).bind fun _ => .ok () else (F__require b t).bind fun _ => .ok () : Rx Unit) = rq (c || b) := by
  cases c <;> cases b <;> rfl
abbrev CNT : List (Str × List Int) := [("I", [0]), ("P", [1, 2]), ("B", [2])]
/-- what a header of a picture must be -/
structure HOk (S : St_Settings) (n : Int) (k : Str) (l : Int) (st rf : List Int) (w ly ed : Int) : Prop where
  num : 0 ≤ n ∧ n ≤ 999
  kind : k ∈ ([("I" : Str), ("P" : Str), ("B" : Str)] : List Str)
  level : 0 ≤ l ∧ l ≤ 31
  weight : 0 ≤ w ∧ w ≤ 16
  even : w = 8 ∨ k = "B"
  layer : 0 ≤ ly ∧ ly < S.layers
  edge : -6 ≤ ed ∧ ed ≤ 6
  deb : ed = 0 ∨ S.deblock = true
  slots : ∀ x ∈ st ++ rf, 0 ≤ x ∧ x < S.slots
  asc : st = sortSet st
  cnt : (rf.length : Int) ∈ dictG CNT k
def nB (S : St_Settings) (h : St_PictureHeader) : Bool :=
  (decide (0 ≤ h.number) && decide (h.number ≤ 999)) && (decide (h.kind ∈ ([("I" : Str), ("P" : Str), ("B" : Str)] : List Str)) && ((decide (0 ≤ h.level) && decide (h.level ≤ 31)) && ((decide (0 ≤ h.weight) && decide (h.weight ≤ 16)) && ((decide (h.weight = 8) || decide (V.str h.kind = V.str ("B" : Str))) && ((decide (0 ≤ h.layer) && decide (h.layer < S.layers)) && ((decide (-6 ≤ h.edge) && decide (h.edge ≤ 6)) && (decide (h.edge = 0) || S.deblock)))))))
theorem numbers_eq (S : St_Settings) (h : St_PictureHeader) : F__check_numbers S h = rq (nB S h) := by
  unfold F__check_numbers
  rw [rq_if]
  refine rq_bind _ _ ?_
  show F__check_numbers_k1 S h = _
  unfold F__check_numbers_k1
  rw [rq_req]
  have e : ∀ b : Bool, ((rq b).bind fun _ => Rx.ok ()) = rq b := fun b => by cases b <;> rfl
  rw [e]
  refine rq_bind _ _ ?_
  show F__check_numbers_k2 S h = _
  unfold F__check_numbers_k2
  rw [rq_if]
  refine rq_bind _ _ ?_
  show F__check_numbers_k3 S h = _
  unfold F__check_numbers_k3
  rw [rq_if]
  refine rq_bind _ _ ?_
  show F__check_numbers_k4 S h = _
  unfold F__check_numbers_k4
  rw [rq_or]
  refine rq_bind _ _ ?_
  show F__check_numbers_k5 S h = _
  unfold F__check_numbers_k5
  rw [rq_if]
  refine rq_bind _ _ ?_
  show F__check_numbers_k6 S h = _
  unfold F__check_numbers_k6
  rw [rq_if]
  refine rq_bind _ _ ?_
  show F__check_numbers_k7 S h = _
  unfold F__check_numbers_k7
  exact rq_or _ _
def sB (S : St_Settings) (x : Int) : Bool := decide (0 ≤ x) && decide (x < S.slots)
theorem loop_eq (S : St_Settings) : ∀ xs : List Int, forS xs () (fun _ x => F__check_slots_b1 S x) = rq (xs.all (sB S))
  | [] => rfl
  | x :: r => by
    rw [List.all_cons]
    show (F__check_slots_b1 S x).bind (fun _ => forS r () (fun _ x => F__check_slots_b1 S x)) = _
    have e : F__check_slots_b1 S x = rq (sB S x) := by
      unfold F__check_slots_b1
      rw [rq_req]
      show (rq (sB S x)).bind _ = _
      cases sB S x <;> rfl
    rw [e]
    exact rq_bind _ _ (loop_eq S r)
theorem slots_eq (S : St_Settings) (h : St_PictureHeader) (h1 : h.store.length ≤ 50) (h2 : h.refs.length ≤ 50) (hk : hasG CNT h.kind = true) :
    F__check_slots S h = rq ((h.store ++ h.refs).all (sB S) && (decide (h.store = sortSet h.store) && decide ((h.refs.length : Int) ∈ dictG CNT h.kind))) := by
  unfold F__check_slots
  rw [grd_pos (by omega), loop_eq]
  refine rq_bind _ _ ?_
  show F__check_slots_r1 h = _
  unfold F__check_slots_r1
  rw [grd_pos h1, rq_req]
  refine rq_bind _ _ ?_
  show grd (hasG CNT h.kind = true) _ = _
  rw [grd_pos hk, rq_req]
  show (rq (decide ((h.refs.length : Int) ∈ dictG CNT h.kind))).bind _ = _
  cases decide ((h.refs.length : Int) ∈ dictG CNT h.kind) <;> rfl
theorem kind_has {k : Str} (h : k ∈ ([("I" : Str), ("P" : Str), ("B" : Str)] : List Str)) : hasG CNT k = true := by
  simp only [List.mem_cons, List.not_mem_nil, or_false] at h
  rcases h with rfl | rfl | rfl <;> decide +kernel
section
variable {S : St_Settings} {n : Int} {k : Str} {l : Int} {st rf : List Int} {w ly ed : Int} {sh : Bool}
theorem nB_iff : nB S ⟨n, k, l, st, rf, w, ly, sh, ed⟩ = true ↔ (0 ≤ n ∧ n ≤ 999) ∧ k ∈ ([("I" : Str), ("P" : Str), ("B" : Str)] : List Str) ∧ (0 ≤ l ∧ l ≤ 31) ∧ (0 ≤ w ∧ w ≤ 16) ∧ (w = 8 ∨ k = "B") ∧ (0 ≤ ly ∧ ly < S.layers) ∧ (-6 ≤ ed ∧ ed ≤ 6) ∧ (ed = 0 ∨ S.deblock = true) := by
  have e : (V.str k = V.str ("B" : Str)) ↔ k = "B" := ⟨fun h => V.str.inj h, fun h => h ▸ rfl⟩
  unfold nB
  simp only [Bool.and_eq_true, Bool.or_eq_true, decide_eq_true_iff, e]
theorem hok_iff : (nB S ⟨n, k, l, st, rf, w, ly, sh, ed⟩ = true ∧ ((st ++ rf).all (sB S) && (decide (st = sortSet st) && decide ((rf.length : Int) ∈ dictG CNT k))) = true) ↔ HOk S n k l st rf w ly ed := by
  have e : ∀ x, sB S x = true ↔ (0 ≤ x ∧ x < S.slots) := fun x => by unfold sB; rw [Bool.and_eq_true, decide_eq_true_iff, decide_eq_true_iff]
  rw [nB_iff, Bool.and_eq_true, Bool.and_eq_true, decide_eq_true_iff, decide_eq_true_iff, List.all_eq_true]
  constructor
  · rintro ⟨⟨a, b, c, d, f, g, h, i⟩, j, m, o⟩
    exact ⟨a, b, c, d, f, g, h, i, fun x hx => (e x).mp (j x hx), m, o⟩
  · rintro ⟨a, b, c, d, f, g, h, i, j, m, o⟩
    exact ⟨⟨a, b, c, d, f, g, h, i⟩, fun x hx => (e x).mpr (j x hx), m, o⟩
theorem pic_ok (h1 : st.length ≤ 50) (h2 : rf.length ≤ 50) (h : HOk S n k l st rf w ly ed) : F_PictureHeader___init__ S n k l st rf w ly sh ed = .ok ⟨n, k, l, st, rf, w, ly, sh, ed⟩ := by
  have z := (hok_iff (sh := sh)).mpr h
  unfold F_PictureHeader___init__
  rw [numbers_eq, z.1, slots_eq S ⟨n, k, l, st, rf, w, ly, sh, ed⟩ h1 h2 (kind_has h.kind), z.2]
  rfl
theorem pic_er (h1 : st.length ≤ 50) (h2 : rf.length ≤ 50) (h : ¬ HOk S n k l st rf w ly ed) : F_PictureHeader___init__ S n k l st rf w ly sh ed = .er rqE := by
  unfold F_PictureHeader___init__
  rw [numbers_eq]
  cases e : nB S ⟨n, k, l, st, rf, w, ly, sh, ed⟩ with
  | false => rfl
  | true =>
    rw [slots_eq S ⟨n, k, l, st, rf, w, ly, sh, ed⟩ h1 h2 (kind_has (nB_iff.mp e).2.1)]
    cases e2 : ((st ++ rf).all (sB S) && (decide (st = sortSet st) && decide ((rf.length : Int) ∈ dictG CNT k))) with
    | false => rfl
    | true => exact absurd (hok_iff.mp ⟨e, e2⟩) h
end
/-! planes as data -/
theorem fr_sm {c a b t : Int} {R : List (List (List Int))} (f : Fr c a b t R) (ha : 1 ≤ a ∧ a ≤ 64) (hb : 1 ≤ b ∧ b ≤ 64) (ht : t ≤ 4095) : Sm (1 + 3 * (1 + 64 * (1 + 64 * 1))) 3 (encL (encL (encL PyData.int)) R) := by
  have n0 := nn_in c
  refine sm_L (fun M hM => ?_) (by have := f.len; omega)
  obtain ⟨k, k0, k1, rfl⟩ := fr_mem f hM
  have p := f.pl k k0 k1
  have z1 := zp_in (c := c) (pl := k) (l := 1) (u := 64) ha (by omega)
  have z2 := zp_in (c := c) (pl := k) (l := 1) (u := 64) hb (by omega)
  have l := p.2.2.1
  refine sm_L (fun r hr => sm_ints (fun x hx => ?_) (by have := p.2.2.2.1 r hr; omega)) (by omega)
  have := p.2.2.2.2 r hr x hx
  omega
theorem eok3 : EncOk 3 (encL (encL (encL PyData.int))) := encOk_L (encOk_L (encOk_L encOk_int))
theorem eok_shaped {α : Type} [DecidableEq α] {n : Nat} {f : α → PyData} (ok : EncOk n f) (x : α) (h : n ≤ 64) : SeqAt.shaped (f x) = true := by
  unfold SeqAt.shaped
  rw [ok.lay x, decide_eq_true (Nat.le_trans (ok.dep x) h)]
  rfl
/-! k59 -/
theorem copyp_eq {R : List (List (List Int))} (hl : R.length ≤ 1000000) (h : ∀ M ∈ R, M.length ≤ 1000000) : F_copy_planes R = .ok R := by
  unfold F_copy_planes
  rw [mapA_pure0 (g := id) (fun M hM => ?_) hl, List.map_id]
  · rfl
  unfold F_copy_planes_c1
  rw [mapA_pure0 (f := fun x => noEr (F_copy_planes_c2 x)) (g := id) (fun r _ => rfl) (h M hM), List.map_id]
  rfl
theorem lawmid_eq {w h d c : Int} (hw : 1 ≤ w ∧ w ≤ 20) (hh : 1 ≤ h ∧ h ≤ 20) (hd : 8 ≤ d ∧ d ≤ 12) : F__law_middle ⟨w, h, d, c⟩ = .ok (mid c d (up w) (up h)) := by
  have n0 := nn_in c
  have uw := up_in hw
  have uh := up_in hh
  unfold F__law_middle
  rw [planes_eq, noEr_ok, bind_ok, grd_pos ⟨by omega, by omega⟩, Int.toNat_natCast]
  have e := forS_list (xs := rng 0 (nn c)) (f := fun s x => F__law_middle_b1 ⟨w, h, d, c⟩ s x) (g := fun k => flP (1 * 2 ^ Int.toNat (d - 1)) (zp c (up w) k) (zp c (up h) k)) (fun s x hx hl => ?_) [] (by rw [rng_len]; show 0 + _ ≤ _; omega)
  · rw [e, bind_ok]
    rfl
  have q := rng_mem hx
  have z1 := zp_in (c := c) (pl := x) (l := 8) (u := 24) (a := up w) (by omega) (by omega)
  have z2 := zp_in (c := c) (pl := x) (l := 8) (u := 24) (a := up h) (by omega) (by omega)
  refine Gv.get ?_
  unfold F__law_middle_b1
  refine Gv.bind_eq (cod_eq q.1 (by omega)) (Gv.grd ⟨by show -(2 ^ 62) ≤ zp c (up h) x; omega, by show zp c (up h) x < 2 ^ 62; omega⟩ (Gv.bind_eq (mapA_pure0 (g := fun _ => List.replicate (zp c (up w) x).toNat (1 * 2 ^ Int.toNat (d - 1))) (fun a _ => ?_) (by rw [rng_len]; show (zp c (up h) x).toNat ≤ _; omega)) (Gv.grd hl (Gv.bnd fun y hy => .ok (hy.trans ?_)))))
  · unfold F__law_middle_c2
    rw [grd_pos (sh_ok hd), grd_pos ⟨by show -(2 ^ 63) ≤ zp c (up w) x; omega, by show zp c (up w) x < 2 ^ 63; omega, by show 1 * Int.toNat (zp c (up w) x) ≤ _; omega⟩, rep_eq]
    rfl
  · rw [rng_const]
    rfl
/-- what a slot holds -/
def Slot (c w h d : Int) (x : PyData) : Prop := x = encN () ∨ ∃ R, x = encL (encL (encL PyData.int)) R ∧ Fr c (up w) (up h) (tp d) R
/-- what it counts as -/
def Cnt (c w h d : Int) (x : PyData) (R : List (List (List Int))) : Prop := Fr c (up w) (up h) (tp d) R ∧ ((x = encN () ∧ R = mid c d (up w) (up h)) ∨ x = encL (encL (encL PyData.int)) R)
section
variable {w h d c : Int}
theorem Slot.sm {x : PyData} (s : Slot c w h d x) (hw : 1 ≤ w ∧ w ≤ 20) (hh : 1 ≤ h ∧ h ≤ 20) (hd : 8 ≤ d ∧ d ≤ 12) : Sm (1 + 3 * (1 + 64 * (1 + 64 * 1))) 3 x := by
  have uw := up_in hw
  have uh := up_in hh
  rcases s with rfl | ⟨R, rfl, f⟩
  · exact sm_non.imp (by decide) (by decide)
  · exact fr_sm f (by omega) (by omega) (tp_in hd).2
theorem fr_copyp {a b t : Int} {R : List (List (List Int))} (f : Fr c a b t R) (hb : b ≤ 1000) : F_copy_planes R = .ok R := by
  have n0 := nn_in c
  refine copyp_eq (by rw [f.len]; omega) fun M hM => ?_
  obtain ⟨k, k0, k1, rfl⟩ := fr_mem f hM
  exact (fr_sh f hb k k0 k1).2
theorem content_gv {x : PyData} (s : Slot c w h d x) (hw : 1 ≤ w ∧ w ≤ 20) (hh : 1 ≤ h ∧ h ≤ 20) (hd : 8 ≤ d ∧ d ≤ 12) : Gv (F__content ⟨w, h, d, c⟩ x) (Cnt c w h d x) := by
  have uw := up_in hw
  have uh := up_in hh
  unfold F__content
  rcases s with rfl | ⟨R, rfl, f⟩
  · refine Gv.pos rfl (Gv.bind_eq (middle_eq hw hh hd) (.ok ⟨mid_fr (by omega) (by omega) hd, .inl ⟨rfl, rfl⟩⟩))
  · refine Gv.neg (by simp [dNone, encL]) (Gv.grd ((cL (cL (cL cI))).oke R) (Gv.bind_eq (a := R) ?_ (.ok ⟨f, .inr rfl⟩)))
    have e : (cL (cL (cL cI))).dec (encL (encL (encL PyData.int)) R) = R := (cL (cL (cL cI))).de R
    rw [e]
    exact fr_copyp f (by omega)
end
/-! k59 two -/
theorem header_gv {S : St_Settings} {cell n : Int} (h0 : 0 ≤ cell) (hs : S.slots = n) (hn : 1 ≤ n ∧ n ≤ 4) (hl : S.layers = 1) : Gv (F__law_header S cell n false) (fun h => h.refs.length ≤ 2 ∧ ∀ x ∈ h.refs, 0 ≤ x ∧ x < n) := by
  have m : ∀ x : Int, 0 ≤ x % n ∧ x % n < n := fun x => ⟨Int.emod_nonneg _ (by omega), Int.emod_lt_of_pos _ (by omega)⟩
  have fin : ∀ (k : Str) (rf : List Int) (wt : Int), rf.length ≤ 2 → (∀ x ∈ rf, 0 ≤ x ∧ x < n) → k ∈ ([("I" : Str), ("P" : Str), ("B" : Str)] : List Str) → (rf.length : Int) ∈ dictG CNT k → 0 ≤ wt ∧ wt ≤ 16 → (wt = 8 ∨ k = "B") →
      Gv (F__law_header_k2 S cell false k rf wt) (fun h => h.refs.length ≤ 2 ∧ ∀ x ∈ h.refs, 0 ≤ x ∧ x < n) := fun k rf wt l r hk hc hw he => by
    unfold F__law_header_k2
    refine Gv.bind_eq (a := (0 : Int)) rfl ?_
    unfold F__law_header_k3
    refine Gv.bind_eq (pic_ok (by decide) (by omega) ⟨by omega, hk, by omega, hw, he, by omega, by decide, .inl rfl, fun x hx => by rw [List.nil_append] at hx; rw [hs]; exact r x hx, by decide +kernel, hc⟩) (.ok ⟨l, r⟩)
  unfold F__law_header
  refine Gv.grd ⟨by show -3 ≤ _; omega, by show _ < 3; omega⟩ ?_
  have c3 : cell % 3 = 0 ∨ cell % 3 = 1 ∨ cell % 3 = 2 := by omega
  rcases c3 with e | e | e <;> rw [e]
  · refine Gv.bind_eq (a := ([] : List Int)) rfl ?_
    unfold F__law_header_k1
    exact Gv.bind_eq (a := (([] : List Int), (8 : Int))) rfl (fin _ _ _ (by decide) (fun x hx => nomatch hx) (by decide) (by decide) (by decide) (.inl rfl))
  · have p : Gv (grd (0 < n) <| (if (cell / 7) % 2 = 1 then grd (0 < n) <| grd (([cell / 3 % n] : List Int).length ≤ 1000000) <| bnd ([cell / 3 % n] ++ [cell / 14 % n]) fun y => .ok y else .ok [cell / 3 % n]) : Rx (List Int)) (fun rf => (rf.length = 1 ∨ rf.length = 2) ∧ ∀ x ∈ rf, 0 ≤ x ∧ x < n) := by
      refine Gv.grd (by omega) (Gv.ite (fun _ => Gv.grd (by omega) (Gv.grd (by show 1 ≤ 1000000; decide) (Gv.bnd fun y hy => .ok ?_))) fun _ => .ok ⟨.inl rfl, fun x hx => ?_⟩)
      · subst hy
        refine ⟨.inr rfl, fun x hx => ?_⟩
        simp at hx
        rcases hx with rfl | rfl <;> exact m _
      · rw [List.mem_singleton.mp hx]
        exact m _
    refine Gv.bind (P := fun rf : List Int => (rf.length = 1 ∨ rf.length = 2) ∧ ∀ x ∈ rf, 0 ≤ x ∧ x < n) p fun rf hr => ?_
    unfold F__law_header_k1
    refine Gv.bind_eq (a := (rf, (8 : Int))) rfl ?_
    show Gv (F__law_header_k2 S cell false ("P" : Str) rf 8) _
    refine fin _ _ _ (by omega) hr.2 (by decide) ?_ (by decide) (.inl rfl)
    have : dictG CNT ("P" : Str) = [1, 2] := by decide +kernel
    show (rf.length : Int) ∈ dictG CNT ("P" : Str)
    rw [this]
    rcases hr.1 with q | q <;> rw [q] <;> decide
  · refine Gv.bind_eq (a := ([] : List Int)) rfl ?_
    unfold F__law_header_k1
    refine Gv.bind (P := fun s : List Int × Int => s.1 = [cell / 3 % n, cell / 14 % n] ∧ 0 ≤ s.2 ∧ s.2 ≤ 16) (Gv.pos rfl (Gv.grd (by omega) (Gv.grd (by omega) (Gv.bnd fun y hy => .ok ⟨rfl, by omega, by omega⟩)))) fun s hs2 => ?_
    rw [hs2.1]
    show Gv (F__law_header_k2 S cell false ("B" : Str) [cell / 3 % n, cell / 14 % n] s.2) _
    refine fin _ _ _ (by simp) (fun x hx => ?_) (by decide) (by show (2 : Int) ∈ dictG CNT ("B" : Str); decide +kernel) hs2.2 (.inr rfl)
    simp at hx
    rcases hx with rfl | rfl <;> exact m _
/-! k59 three -/
theorem cut_pre {α : Type} {xs : List α} {k : Int} (h0 : 0 ≤ k) (h1 : k < xs.length) : cutL xs none (some k) = xs.take k.toNat := by
  unfold cutL
  rw [sIx_at h0 (by omega)]
  simp [HT.sIx]
theorem cut_suf {α : Type} {xs : List α} {k : Int} (h0 : 0 ≤ k) (h1 : k < xs.length) : cutL xs (some (k + 1)) none = xs.drop (k.toNat + 1) := by
  unfold cutL
  rw [sIx_at (by omega) (by omega), HT.sIx_none, show (k + 1).toNat = k.toNat + 1 by omega, List.take_of_length_le (by rw [List.length_drop]; exact Nat.le_refl _)]
theorem setL_nat {α : Type} {xs : List α} {k : Int} {y : α} (h0 : 0 ≤ k) (h1 : k < xs.length) : setL xs k y = xs.set k.toNat y := by
  obtain ⟨j, rfl⟩ : ∃ j : Nat, k = (j : Int) := ⟨k.toNat, by omega⟩
  unfold setL ixN
  rw [if_pos (by omega), if_pos (by omega)]
  rfl
theorem others_eq {α : Type} {xs : List α} {k : Int} {y : α} (h0 : 0 ≤ k) (h1 : k < xs.length) : cutL (setL xs k y) none (some k) ++ cutL (setL xs k y) (some (k + 1)) none = cutL xs none (some k) ++ cutL xs (some (k + 1)) none := by
  have hl : (setL xs k y).length = xs.length := setL_len
  rw [cut_pre h0 (by rw [hl]; exact h1), cut_suf h0 (by rw [hl]; exact h1), cut_pre h0 h1, cut_suf h0 h1, setL_nat h0 h1, List.take_set_of_le (by omega), List.drop_set_of_lt (by omega)]
theorem others_mem {α : Type} {xs : List α} {k : Int} {x : α} (h0 : 0 ≤ k) (h1 : k < xs.length) (h : x ∈ cutL xs none (some k) ++ cutL xs (some (k + 1)) none) : x ∈ xs := by
  rw [cut_pre h0 h1, cut_suf h0 h1] at h
  rcases List.mem_append.mp h with h | h
  · exact List.mem_of_mem_take h
  · exact List.mem_of_mem_drop h
theorem set_at {α : Type} [Inhabited α] {xs : List α} {k : Int} {y : α} (h0 : 0 ≤ k) (h1 : k < (xs.length : Int)) : itD (setL xs k y) k = y := by
  rw [setL_nat h0 h1]
  obtain ⟨j, rfl⟩ : ∃ j : Nat, k = (j : Int) := ⟨k.toNat, by omega⟩
  have hj2 : j < (xs.set j y).length := by rw [List.length_set]; omega
  rw [Int.toNat_natCast, itDn hj2, List.getElem_set_self]
/-- planes for showing -/
structure SQ (n : Nat) (R : List (List (List Int))) : Prop where
  len : 0 < R.length ∧ R.length ≤ 3
  pl : ∀ M ∈ R, (0 < M.length ∧ M.length ≤ 64) ∧ ∀ r ∈ M, (0 < r.length ∧ r.length ≤ 64) ∧ ∀ x ∈ r, -1 ≤ x ∧ x ≤ 4095
theorem SQ.sm {n : Nat} {R : List (List (List Int))} (s : SQ n R) : Sm (1 + 3 * (1 + 64 * (1 + 64 * 1))) 3 (encL (encL (encL PyData.int)) R) :=
  sm_L (fun M hM => sm_L (fun r hr => sm_ints (fun x hx => by have := ((s.pl M hM).2 r hr).2 x hx; omega) ((s.pl M hM).2 r hr).1.2) (s.pl M hM).1.2) s.len.2
theorem fr_sq {c a b t : Int} {R : List (List (List Int))} (f : Fr c a b t R) (ha : 1 ≤ a ∧ a ≤ 64) (hb : 1 ≤ b ∧ b ≤ 64) (ht : t ≤ 4095) : SQ 0 R := by
  have n0 := nn_in c
  refine ⟨by have := f.len; omega, fun M hM => ?_⟩
  obtain ⟨k, k0, k1, rfl⟩ := fr_mem f hM
  have p := f.pl k k0 k1
  have z1 := zp_in (c := c) (pl := k) (l := 1) (u := 64) ha (by omega)
  have z2 := zp_in (c := c) (pl := k) (l := 1) (u := 64) hb (by omega)
  refine ⟨by have := p.2.2.1; omega, fun r hr => ⟨by have := p.2.2.2.1 r hr; omega, fun x hx => by have := p.2.2.2.2 r hr x hx; omega⟩⟩
theorem copyc_eq {R : List (List (List Int))} (s : SQ 0 R) : mapA R [] (fun x => noEr (F_law_c4 x)) = .ok R := by
  rw [mapA_pure0 (g := id) (fun M hM => ?_) (by have := s.len; omega), List.map_id]
  unfold F_law_c4
  rw [mapA_pure0 (f := fun x => noEr (F_law_c5 x)) (g := id) (fun r _ => rfl) (by have := (s.pl M hM).1; omega), List.map_id]
  rfl
theorem rows_set {M : List (List Int)} {k : Int} (h : (0 < M.length ∧ M.length ≤ 64) ∧ ∀ r ∈ M, (0 < r.length ∧ r.length ≤ 64) ∧ ∀ x ∈ r, -1 ≤ x ∧ x ≤ 4095) (g : -(M.length : Int) ≤ k ∧ k < (M.length : Int)) :
    (0 < (setL M k (setL (itD M k) 0 (-1))).length ∧ (setL M k (setL (itD M k) 0 (-1))).length ≤ 64) ∧ ∀ r ∈ setL M k (setL (itD M k) 0 (-1)), (0 < r.length ∧ r.length ≤ 64) ∧ ∀ x ∈ r, -1 ≤ x ∧ x ≤ 4095 := by
  have q := h.2 _ (itD_mem g)
  refine ⟨by rw [setL_len]; exact h.1, fun r hr => ?_⟩
  rcases setL_mem hr with hr | rfl
  · exact h.2 r hr
  · refine ⟨by rw [setL_len]; exact q.1, fun x hx => ?_⟩
    rcases setL_mem hx with hx | rfl
    · exact q.2 x hx
    · omega
theorem b3_eq {RS : List (List (List (List Int)))} {k : Int} (k0 : 0 ≤ k) (k1 : k < RS.length) (hl : RS.length ≤ 2) (hR : ∀ R ∈ RS, SQ 0 R) : Gv (F_law_b3 RS k) (fun l => ∃ RS', l = .go RS' ∧ RS'.length = RS.length ∧ ∀ R ∈ RS', SQ 0 R) := by
  have g : -(RS.length : Int) ≤ k ∧ k < (RS.length : Int) := by omega
  have s := hR _ (itD_mem g)
  generalize hRk : itD RS k = R at s
  have gl : -(R.length : Int) ≤ (R.length : Int) - 1 ∧ (R.length : Int) - 1 < (R.length : Int) := by have := s.len; omega
  generalize hj : (R.length : Int) - 1 = j at gl
  have p := s.pl _ (itD_mem gl)
  generalize hM : itD R j = M at p
  have gm : -(M.length : Int) ≤ (M.length : Int) - 1 ∧ (M.length : Int) - 1 < (M.length : Int) := by have := p.1; omega
  have gr : -((itD M ((M.length : Int) - 1)).length : Int) ≤ 0 ∧ 0 < ((itD M ((M.length : Int) - 1)).length : Int) := by
    have := (p.2 _ (itD_mem gm)).1
    omega
  have cl2 : ∀ X : List (List (List (List Int))), X.length ≤ 2 → (∀ R ∈ X, SQ 0 R) → k < X.length → (cutL X none (some k) : List (List (List (List Int)))).length + (cutL X (some (k + 1)) none : List (List (List (List Int)))).length ≤ 1000000 ∧ ShowOk (encL (encL (encL (encL PyData.int))) (cutL X none (some k) ++ cutL X (some (k + 1)) none)) := fun X hx hq hk => by
    have a1 : (cutL X none (some k)).length ≤ 2 := by rw [cut_pre k0 hk, List.length_take]; omega
    have a2 : (cutL X (some (k + 1)) none).length ≤ 2 := by rw [cut_suf k0 hk, List.length_drop]; omega
    refine ⟨by omega, (sm_L (m := 4) (fun R hm => (hq R (others_mem k0 hk hm)).sm) (by rw [List.length_append]; omega)).show⟩
  have c0 := cl2 RS hl hR k1
  have hRS' : ∀ R' ∈ setL RS k (setL R j (setL M ((M.length : Int) - 1) (setL (itD M ((M.length : Int) - 1)) 0 (-1)))), SQ 0 R' := fun R' hm => by
    rcases setL_mem hm with hm | rfl
    · exact hR R' hm
    · refine ⟨by rw [setL_len]; exact s.len, fun N hN => ?_⟩
      rcases setL_mem hN with hN | rfl
      · exact s.pl N hN
      · exact rows_set p gm
  unfold F_law_b3
  refine Gv.grd c0.1 (Gv.grd c0.2 (Gv.grd g ?_))
  rw [hRk]
  refine Gv.bind_eq (copyc_eq s) (Gv.grd g (Gv.bnd fun a ha => ?_))
  rw [hj] at ha
  subst ha
  refine Gv.grd g (Gv.grd gl (Gv.grd gl ?_))
  rw [hM]
  refine Gv.grd gm (Gv.grd gr (Gv.bnd fun y1 h1 => Gv.bnd fun y2 h2 => Gv.bnd fun y3 h3 => Gv.grd gl (Gv.grd gl (Gv.grd gm (Gv.grd gr (Gv.bnd fun y4 h4 => Gv.bnd fun y5 h5 => ?_)))))) 
  have e5 : y5 = y2 := by rw [h5, h2, h4, h1]
  have e3 : y3 = setL RS k (setL R a (setL M ((M.length : Int) - 1) (setL (itD M ((M.length : Int) - 1)) 0 (-1)))) := by rw [h3, h2, h1]
  have l3 : y3.length = RS.length := by rw [h3, setL_len]
  refine Gv.grd (by rw [l3]; exact g) (Gv.pos (by rw [h3, set_at k0 k1, e5]) ?_)
  have c1 := cl2 y3 (by omega) (fun R' hm => hRS' R' (e3 ▸ hm)) (by omega)
  refine Gv.grd c1.1 (Gv.grd c1.2 (Gv.pos ?_ (.ok ⟨y3, rfl, l3, fun R' hm => hRS' R' (e3 ▸ hm)⟩)))
  rw [h3, others_eq k0 k1]
/-! k59 four -/
theorem law_true (script : List Int) (hs : script.length ≤ 63) : F_law script = .ok true := by
  refine Gv.get ?_
  unfold F_law
  refine Gv.bind (cell_gv _ _ (by decide)) fun v0 _ => Gv.bind (digits_gv _ _ _ (by decide) (by decide) (by decide) (by decide)) fun ds hds => ?_
  have gi : ∀ k : Int, 0 ≤ k → k < 6 → -(ds.length : Int) ≤ k ∧ k < (ds.length : Int) := fun k _ _ => by have := hds.1; omega
  have m : ∀ k : Int, 0 ≤ k → k < 6 → 0 ≤ itD ds k := fun k a b => (hds.2 _ (itD_mem (gi k a b))).1
  refine Gv.grd (gi 0 (by decide) (by decide)) (Gv.grd (gi 1 (by decide) (by decide)) (Gv.grd (gi 2 (by decide) (by decide)) (Gv.grd (gi 3 (by decide) (by decide)) ?_)))
  have m0 := m 0 (by decide) (by decide)
  have m1 := m 1 (by decide) (by decide)
  have m2 := m 2 (by decide) (by decide)
  have m3 := m 3 (by decide) (by decide)
  have m4 := m 4 (by decide) (by decide)
  have hw : 1 ≤ 1 + itD ds 0 % 16 ∧ 1 + itD ds 0 % 16 ≤ 20 := by omega
  have hh : 1 ≤ 1 + itD ds 1 % 16 ∧ 1 + itD ds 1 % 16 ≤ 20 := by omega
  have hd : 8 ≤ 8 + itD ds 2 % 5 ∧ 8 + itD ds 2 % 5 ≤ 12 := by omega
  have hc : 0 ≤ itD ds 3 % 3 ∧ itD ds 3 % 3 ≤ 2 := by omega
  have hn : 1 ≤ 1 + itD ds 4 % 4 ∧ 1 + itD ds 4 % 4 ≤ 4 := by omega
  have g4 := gi 4 (by decide) (by decide)
  generalize 1 + itD ds 0 % 16 = w at hw ⊢
  generalize 1 + itD ds 1 % 16 = h at hh ⊢
  generalize 8 + itD ds 2 % 5 = d at hd ⊢
  generalize itD ds 3 % 3 = c at hc ⊢
  generalize 1 + itD ds 4 % 4 = n at hn ⊢
  have uw := up_in hw
  have uh := up_in hh
  have ff : F_Format___init__ w h d c = .ok ⟨w, h, d, c⟩ := by
    unfold F_Format___init__
    refine Gv.get ?_
    refine Gv.pos (by omega) (Gv.pos (by omega) (Gv.pos (by omega) (Gv.pos (by omega) (Gv.pos (by omega) (Gv.pos (by omega) (Gv.pos (by omega) (Gv.pos (by omega) (.ok rfl))))))))
  refine Gv.bind_eq ff (Gv.grd g4 (Gv.bnd fun cnt hcnt => ?_))
  subst hcnt
  have fs : F_Settings___init__ ⟨w, h, d, c⟩ cnt 1 false false 1 = .ok ⟨⟨w, h, d, c⟩, cnt, 1, false, false, 1⟩ := by
    unfold F_Settings___init__
    have e1 : (decide (1 ≤ cnt) && decide (cnt ≤ 4)) = true := by rw [decide_eq_true hn.1, decide_eq_true hn.2]; rfl
    rw [rq_req, rq_req, rq_req, e1]
    rfl
  refine Gv.bind_eq fs (Gv.bind_eq (lawmid_eq hw hh hd) (Gv.bind_eq (middle_eq hw hh hd) (Gv.pos rfl ?_)))
  have sq := fr_sq (mid_fr (c := c) (w := up w) (h := up h) (by omega) (by omega) hd) (by omega) (by omega) (tp_in hd).2
  generalize hm : mid c d (up w) (up h) = D at sq
  have z0 : -(D.length : Int) ≤ 0 ∧ 0 < (D.length : Int) := by have := sq.len; omega
  have p := sq.pl _ (itD_mem z0)
  have z1 : -((itD D 0).length : Int) ≤ 0 ∧ 0 < ((itD D 0).length : Int) := by have := p.1; omega
  have z2 : -((itD (itD D 0) 0).length : Int) ≤ 0 ∧ 0 < ((itD (itD D 0) 0).length : Int) := by have := (p.2 _ (itD_mem z1)).1; omega
  refine Gv.grd z0 (Gv.grd z1 (Gv.grd z2 (Gv.bnd fun _ _ => Gv.bnd fun _ _ => Gv.bind_eq ((middle_eq hw hh hd).trans (by rw [hm])) (Gv.pos rfl (Gv.grd ⟨by omega, by omega⟩ ?_)))))
  refine Gv.bind (Gv.forS (P := fun i s => s.length = i ∧ ∀ x ∈ s, Slot c w h d x) ⟨rfl, fun x hx => nomatch hx⟩ fun i x s hx q => ?_) fun slots q => ?_
  · obtain ⟨rfl, hi⟩ := rng_at hx
    unfold F_law_b1
    refine Gv.bind (cell_gv _ _ (by omega)) fun v hv => Gv.bnd fun cell hcell => Gv.ite (fun _ => Gv.grd (by rw [q.1]; omega) (Gv.bnd fun y hy => .ok ?_)) fun _ => ?_
    · subst hy
      refine ⟨by rw [List.length_append, q.1]; rfl, fun x hx => ?_⟩
      rcases List.mem_append.mp hx with hx | hx
      · exact q.2 x hx
      · rw [List.mem_singleton.mp hx]
        exact .inl rfl
    · have et : F_Format_top ⟨w, h, d, c⟩ = .ok (tp d) := by
        unfold F_Format_top
        exact Gv.get (Gv.grd ⟨by show 0 ≤ d; omega, by show d ≤ 4096; omega, one_4096⟩ (.ok rfl))
      refine Gv.bind_eq (a := tp d) (by rw [et]; rfl) (Gv.bind (lplanes_gv (by omega) (by omega) ⟨by have := tp_in hd; omega, (tp_in hd).2⟩ (by omega)) fun R hR => Gv.grd (by rw [q.1]; omega) (Gv.bnd fun y hy => .ok ?_))
      subst hy
      refine ⟨by rw [List.length_append, q.1]; rfl, fun x hx => ?_⟩
      rcases List.mem_append.mp hx with hx | hx
      · exact q.2 x hx
      · rw [List.mem_singleton.mp hx]
        exact .inr ⟨R, rfl, hR⟩
  rw [rng_len] at q
  have ql : (slots.length : Int) = cnt := by rw [q.1]; omega
  have sh : ShowOk (encL encD slots) := (sm_L (m := 4) (fun x hx => (q.2 x hx).sm hw hh hd) (by omega)).show
  unfold F_law_r1
  refine Gv.bind (cell_gv _ _ (by decide)) fun v1 hv1 => Gv.bind (header_gv hv1 rfl hn rfl) fun H hH => Gv.grd sh ?_
  have gs : ∀ x ∈ H.refs, -(slots.length : Int) ≤ x ∧ x < (slots.length : Int) := fun x hx => by have := hH.2 x hx; omega
  have refs : Gv (F_references_of ⟨⟨w, h, d, c⟩, cnt, 1, false, false, 1⟩ H slots) (fun RS => RS.length = H.refs.length ∧ ∀ k : Int, 0 ≤ k → k < (H.refs.length : Int) → Cnt c w h d (itD slots (itD H.refs k)) (itD RS k)) := by
    have ch : ∀ x, ∃ R, x ∈ H.refs → F_references_of_c1 ⟨⟨w, h, d, c⟩, cnt, 1, false, false, 1⟩ slots x = .ok R ∧ Cnt c w h d (itD slots x) R := fun x => by
      by_cases hx : x ∈ H.refs
      · obtain ⟨R, e, p⟩ := content_gv (q.2 _ (itD_mem (gs x hx))) hw hh hd
        refine ⟨R, fun _ => ⟨?_, p⟩⟩
        unfold F_references_of_c1
        rw [grd_pos (gs x hx)]
        show Rx.bind (F__content ⟨w, h, d, c⟩ _) _ = _
        rw [e]
        rfl
      · exact ⟨[], fun z => absurd z hx⟩
    obtain ⟨g, hg⟩ : ∃ g : Int → List (List (List Int)), ∀ x, x ∈ H.refs → F_references_of_c1 ⟨⟨w, h, d, c⟩, cnt, 1, false, false, 1⟩ slots x = .ok (g x) ∧ Cnt c w h d (itD slots x) (g x) := ⟨fun x => Classical.choose (ch x), fun x => Classical.choose_spec (ch x)⟩
    unfold F_references_of
    refine Gv.bind_eq (mapA_pure0 (g := g) (fun x hx => by rw [(hg x hx).1]; rfl) (by omega)) (.ok ⟨List.length_map .., fun k k0 k1 => ?_⟩)
    have gk : -(H.refs.length : Int) ≤ k ∧ k < (H.refs.length : Int) := by omega
    rw [itD_map gk]
    exact (hg _ (itD_mem gk)).2
  refine Gv.bind refs fun RS hRS => Gv.pos (by rw [hRS.1]) (Gv.grd sh (Gv.pos rfl (Gv.grd ⟨by omega, by rw [hRS.1]; omega⟩ ?_)))
  rw [Int.toNat_natCast]
  have fr : ∀ k : Int, 0 ≤ k → k < (RS.length : Int) → Fr c (up w) (up h) (tp d) (itD RS k) := fun k k0 k1 => (hRS.2 k k0 (by rw [← hRS.1]; exact k1)).1
  have sqs : ∀ R ∈ RS, SQ 0 R := fun R hR => by
    obtain ⟨j, hj⟩ := List.mem_iff_getElem?.mp hR
    have hl := get_len hj
    have e : itD RS j = R := by
      rw [itDn hl]
      rw [List.getElem?_eq_getElem hl] at hj
      exact Option.some.inj hj
    rw [← e]
    exact fr_sq (fr j (by omega) (by omega)) (by omega) (by omega) (tp_in hd).2
  refine Gv.bind_eq (forR_unit fun x hx => ?_) ?_
  · have r := rng_mem hx
    have gk : -(H.refs.length : Int) ≤ x ∧ x < (H.refs.length : Int) := by have := hRS.1; omega
    have gk2 : -(RS.length : Int) ≤ x ∧ x < (RS.length : Int) := by omega
    have cn := hRS.2 x r.1 (by rw [← hRS.1]; omega)
    refine Gv.get ?_
    unfold F_law_b2
    refine Gv.grd gk (Gv.grd (gs _ (itD_mem gk)) (Gv.grd gk2 ?_))
    rcases cn.2 with ⟨e1, e2⟩ | e1
    · rw [e1, e2]
      refine Gv.pos rfl (Gv.grd ⟨eok_shaped eok3 _ (by decide), eok_shaped eok3 _ (by decide)⟩ (Gv.neg ?_ (.ok rfl)))
      rw [eok3.eqv, hm]
      simp
    · rw [e1]
      refine Gv.neg (by simp [dNone, encL]) (Gv.grd ⟨eok_shaped eok3 _ (by decide), eok_shaped eok3 _ (by decide)⟩ (Gv.neg ?_ (.ok rfl)))
      rw [eok3.eqv]
      simp
  rw [aft_go]
  unfold F_law_r2
  refine Gv.grd ⟨by omega, by rw [hRS.1]; omega⟩ ?_
  rw [Int.toNat_natCast]
  refine Gv.bind (Gv.forR (P := fun _ RS' => RS'.length = RS.length ∧ ∀ R ∈ RS', SQ 0 R) ⟨rfl, sqs⟩ fun i x s hx p => ?_) ?_
  · obtain ⟨rfl, hi⟩ := rng_at hx
    obtain ⟨l, e, RS', e2, l2, p2⟩ := b3_eq (RS := s) (k := 0 + (i : Int)) (by omega) (by rw [p.1]; omega) (by rw [p.1, hRS.1]; exact hH.1) p.2
    exact ⟨l, e, RS', e2, l2.trans p.1, p2⟩
  · rintro _ ⟨RS', rfl, -⟩
    rw [aft_go]
    unfold F_law_r3
    refine Gv.grd sh (Gv.pos (by simp) (Gv.bind_eq ((middle_eq hw hh hd).trans (by rw [hm])) (.ok (by simp))))

end Vx
namespace Vx
open PySem PySem.Spec PyProof.Rows L2
def topS (i : Nat) : Stmt := PySem.Challenge.pw_thaumatrope_k59_references_of_pictures.main.body.getD i (.Pass ⟨0, 0, 0, 0⟩)
abbrev s__law_digits : Stmt := topS 35
abbrev s_Format___init__ : Stmt := inClass (topS 9) 0
abbrev s__require : Stmt := topS 26
abbrev s_Settings___init__ : Stmt := inClass (topS 24) 0
abbrev s_Format_planes : Stmt := inClass (topS 9) 2
abbrev s_Format_blocks : Stmt := inClass (topS 9) 7
abbrev s_Format__plane_size : Stmt := inClass (topS 9) 10
abbrev s_Format_coded_size : Stmt := inClass (topS 9) 6
abbrev s__law_middle : Stmt := topS 38
abbrev s__check_shape : Stmt := topS 16
abbrev s_Format_size : Stmt := inClass (topS 9) 5
abbrev s__sizes : Stmt := topS 14
abbrev s_Format_top : Stmt := inClass (topS 9) 4
abbrev s_check_frame : Stmt := topS 11
abbrev s__pad_plane : Stmt := topS 17
abbrev s__coded_sizes : Stmt := topS 15
abbrev s_pad_frame : Stmt := topS 12
abbrev s_Format_middle : Stmt := inClass (topS 9) 3
abbrev s_flat_frame : Stmt := topS 10
abbrev s_middle_planes : Stmt := topS 30
abbrev s__check_numbers : Stmt := topS 27
abbrev s__check_slots : Stmt := topS 28
abbrev s_PictureHeader___init__ : Stmt := inClass (topS 25) 0
abbrev s__law_header : Stmt := topS 37
abbrev s_copy_planes : Stmt := topS 13
abbrev s__content : Stmt := topS 32
abbrev s_references_of : Stmt := topS 31
abbrev s__law_cell : Stmt := topS 34
abbrev s__law_planes : Stmt := topS 36
abbrev s_law : Stmt := topS 39
structure Ads where
  td_PictureHeader___init___store : Addr
  td_PictureHeader___init___refs : Addr
  c_Format : Addr
  c_Settings : Addr
  c_PictureHeader : Addr
  x_CodecError : Addr
  x_BadFormat : Addr
  x_BadFrame : Addr
  x_OutOfRange : Addr
  x_BadHeader : Addr
  t_KINDS : Addr
  t_REF_COUNTS : Addr
  t_REF_COUNTS_0 : Addr
  t_REF_COUNTS_1 : Addr
  t_REF_COUNTS_2 : Addr
  z0 : Addr
def excA (AD : Ads) : Nat → Addr
  | 0 => AD.x_CodecError
  | 1 => AD.x_BadFormat
  | 2 => AD.x_BadFrame
  | 3 => AD.x_OutOfRange
  | 4 => AD.x_BadHeader
  | _ => AD.z0
structure Txt (w : World) (K : PySem.W.Frag) (mg : Str → Option Value) (AD : Ads) : Prop where
  b_int : mg "int" = none
  b_range : mg "range" = none
  g_BLOCK : ∃ u, mg "BLOCK" = some u ∧ RelV (V.int 8) u
  b_len : mg "len" = none
  b_any : mg "any" = none
  b_zip : mg "zip" = none
  b_max : mg "max" = none
  b_min : mg "min" = none
  b_list : mg "list" = none
  g_GREATEST_NUMBER : ∃ u, mg "GREATEST_NUMBER" = some u ∧ RelV (V.int 999) u
  g_KINDS : ∃ u, mg "KINDS" = some u ∧ RelV (V.ref AD.t_KINDS) u
  ts_KINDS : ∀ H, SqT K H AD.t_KINDS ((["I", "P", "B"] : List Str).map V.str)
  g_GREATEST_LEVEL : ∃ u, mg "GREATEST_LEVEL" = some u ∧ RelV (V.int 31) u
  g_EVEN_WEIGHT : ∃ u, mg "EVEN_WEIGHT" = some u ∧ RelV (V.int 8) u
  b_sorted : mg "sorted" = none
  b_set : mg "set" = none
  g_REF_COUNTS : ∃ u, mg "REF_COUNTS" = some u ∧ RelV (V.ref AD.t_REF_COUNTS) u
  kd_REF_COUNTS : KDA K w AD.t_REF_COUNTS ([("I", AD.t_REF_COUNTS_0), ("P", AD.t_REF_COUNTS_1), ("B", AD.t_REF_COUNTS_2)] : List (Str × Addr))
  th_REF_COUNTS : ∀ z, hasG ([("I", [0]), ("P", [1, 2]), ("B", [2])] : List (Str × List Int)) z = true → hasG ([("I", AD.t_REF_COUNTS_0), ("P", AD.t_REF_COUNTS_1), ("B", AD.t_REF_COUNTS_2)] : List (Str × Addr)) z = true
  tt_REF_COUNTS : ∀ z, hasG ([("I", [0]), ("P", [1, 2]), ("B", [2])] : List (Str × List Int)) z = true → ∀ H, SqT K H (dictG ([("I", AD.t_REF_COUNTS_0), ("P", AD.t_REF_COUNTS_1), ("B", AD.t_REF_COUNTS_2)] : List (Str × Addr)) z) ((dictG ([("I", [0]), ("P", [1, 2]), ("B", [2])] : List (Str × List Int)) z).map V.int)
  b_abs : mg "abs" = none
  b_isinstance : mg "isinstance" = none
  b_repr : mg "repr" = none
  td_PictureHeader___init___store : ∀ H, SqT K H AD.td_PictureHeader___init___store (([] : List Int).map V.int)
  td_PictureHeader___init___refs : ∀ H, SqT K H AD.td_PictureHeader___init___refs (([] : List Int).map V.int)
  cl_Format : Cls K AD.c_Format
  n_Format_width : NoAttr K AD.c_Format "width"
  n_Format_height : NoAttr K AD.c_Format "height"
  n_Format_depth : NoAttr K AD.c_Format "depth"
  n_Format_chroma : NoAttr K AD.c_Format "chroma"
  cl_Settings : Cls K AD.c_Settings
  n_Settings_fmt : NoAttr K AD.c_Settings "fmt"
  n_Settings_slots : NoAttr K AD.c_Settings "slots"
  n_Settings_rows : NoAttr K AD.c_Settings "rows"
  n_Settings_deblock : NoAttr K AD.c_Settings "deblock"
  n_Settings_offset : NoAttr K AD.c_Settings "offset"
  n_Settings_layers : NoAttr K AD.c_Settings "layers"
  cl_PictureHeader : Cls K AD.c_PictureHeader
  n_PictureHeader_number : NoAttr K AD.c_PictureHeader "number"
  n_PictureHeader_kind : NoAttr K AD.c_PictureHeader "kind"
  n_PictureHeader_level : NoAttr K AD.c_PictureHeader "level"
  n_PictureHeader_store : NoAttr K AD.c_PictureHeader "store"
  n_PictureHeader_refs : NoAttr K AD.c_PictureHeader "refs"
  n_PictureHeader_weight : NoAttr K AD.c_PictureHeader "weight"
  n_PictureHeader_layer : NoAttr K AD.c_PictureHeader "layer"
  n_PictureHeader_shown : NoAttr K AD.c_PictureHeader "shown"
  n_PictureHeader_edge : NoAttr K AD.c_PictureHeader "edge"
  xg_BadFormat : mg "BadFormat" = some (.ref AD.x_BadFormat)
  xx_BadFormat : PySem.W.excIn K AD.x_BadFormat [.type "ValueError", .type "Exception", .type "BaseException", .type "object"] "ValueError.__new__" = true
  xk_BadFormat : PySem.W.keepIn K (.ref AD.x_BadFormat) = true
  xb_BadFormat : PySem.W.subIn K (.ref AD.x_BadFormat) (.type "BaseException") = some true
  xt_BadFormat : PySem.W.typeIn K (.ref AD.x_BadFormat) = some (.type "type")
  xg_BadHeader : mg "BadHeader" = some (.ref AD.x_BadHeader)
  xx_BadHeader : PySem.W.excIn K AD.x_BadHeader [.type "ValueError", .type "Exception", .type "BaseException", .type "object"] "ValueError.__new__" = true
  xk_BadHeader : PySem.W.keepIn K (.ref AD.x_BadHeader) = true
  xb_BadHeader : PySem.W.subIn K (.ref AD.x_BadHeader) (.type "BaseException") = some true
  xt_BadHeader : PySem.W.typeIn K (.ref AD.x_BadHeader) = some (.type "type")
  xg_OutOfRange : mg "OutOfRange" = some (.ref AD.x_OutOfRange)
  xx_OutOfRange : PySem.W.excIn K AD.x_OutOfRange [.type "ValueError", .type "Exception", .type "BaseException", .type "object"] "ValueError.__new__" = true
  xk_OutOfRange : PySem.W.keepIn K (.ref AD.x_OutOfRange) = true
  xb_OutOfRange : PySem.W.subIn K (.ref AD.x_OutOfRange) (.type "BaseException") = some true
  xt_OutOfRange : PySem.W.typeIn K (.ref AD.x_OutOfRange) = some (.type "type")
  xg_BadFrame : mg "BadFrame" = some (.ref AD.x_BadFrame)
  xx_BadFrame : PySem.W.excIn K AD.x_BadFrame [.type "ValueError", .type "Exception", .type "BaseException", .type "object"] "ValueError.__new__" = true
  xk_BadFrame : PySem.W.keepIn K (.ref AD.x_BadFrame) = true
  xb_BadFrame : PySem.W.subIn K (.ref AD.x_BadFrame) (.type "BaseException") = some true
  xt_BadFrame : PySem.W.typeIn K (.ref AD.x_BadFrame) = some (.type "type")
abbrev pat__law_digits_0 : Pat := (3, [], fun vs _ => vs)
abbrev pats__law_digits : List Pat := [pat__law_digits_0]
abbrev pat_Format___init___0 : Pat := (3, ["depth", "chroma"], fun vs zs => match vs, zs with | [a0, a1, a2], [b0, b1] => [a0, a1, a2, b0, b1] | _, _ => [])
abbrev pats_Format___init__ : List Pat := [pat_Format___init___0]
abbrev pat__require_0 : Pat := (2, [], fun vs _ => vs)
abbrev pats__require : List Pat := [pat__require_0]
def gk_Settings___init___0 {α : Type} (us mz ws : List α) : List α := match us, mz, ws with | [a0, a1], [m0, m1, m2, m3], [b0] => [a0, a1, b0, m0, m1, m2, m3] | _, _, _ => []
theorem gknil_Settings___init___0 {α : Type} {us mz ws : List α} (h : us.length ≠ 2 ∨ mz.length ≠ 4 ∨ ws.length ≠ 1) : gk_Settings___init___0 us mz ws = [] := by
  unfold gk_Settings___init___0
  split
  · simp at h
  · rfl
theorem gkrel_Settings___init___0 {vs mz zs : List V} {us mv ws : List Value} (r : Vals vs us) (s : Vals mz mv) (q : Vals zs ws) : Vals (gk_Settings___init___0 vs mz zs) (gk_Settings___init___0 us mv ws) := by
  by_cases h1 : vs.length = 2
  · by_cases h2 : mz.length = 4
    · by_cases h3 : zs.length = 1
      · obtain ⟨a0, a1, rfl⟩ := len2 h1
        obtain ⟨m0, m1, m2, m3, rfl⟩ := len4 h2
        obtain ⟨b0, rfl⟩ := len1 h3
        cases r with | cons r0 r =>
          cases r with | cons r1 r =>
            cases r
            cases s with | cons s0 s =>
              cases s with | cons s1 s =>
                cases s with | cons s2 s =>
                  cases s with | cons s3 s =>
                    cases s
                    cases q with | cons q0 q =>
                      cases q
                      exact (.cons r0 (.cons r1 (.cons q0 (.cons s0 (.cons s1 (.cons s2 (.cons s3 .nil)))))))
      · have k : ws.length ≠ 1 := fun z => h3 (q.length.trans z)
        rw [gknil_Settings___init___0 (by first | exact .inl h3 | exact .inr (.inl h3) | exact .inr (.inr h3)), gknil_Settings___init___0 (by first | exact .inl k | exact .inr (.inl k) | exact .inr (.inr k))]
        exact .nil
    · have k : mv.length ≠ 4 := fun z => h2 (s.length.trans z)
      rw [gknil_Settings___init___0 (by first | exact .inl h2 | exact .inr (.inl h2) | exact .inr (.inr h2)), gknil_Settings___init___0 (by first | exact .inl k | exact .inr (.inl k) | exact .inr (.inr k))]
      exact .nil
  · have k : us.length ≠ 2 := fun z => h1 (r.length.trans z)
    rw [gknil_Settings___init___0 (by first | exact .inl h1 | exact .inr (.inl h1) | exact .inr (.inr h1)), gknil_Settings___init___0 (by first | exact .inl k | exact .inr (.inl k) | exact .inr (.inr k))]
    exact .nil
abbrev pat_Settings___init___0 : Pat := (2, ["slots"], fun vs zs => gk_Settings___init___0 vs [V.int 1, V.bl false, V.bl false, V.int 1] zs)
abbrev pats_Settings___init__ : List Pat := [pat_Settings___init___0]
abbrev pats_Format_planes : List Pat := []
abbrev pat_Format_blocks_0 : Pat := (1, [], fun vs _ => vs)
abbrev pats_Format_blocks : List Pat := [pat_Format_blocks_0]
abbrev pat_Format__plane_size_0 : Pat := (4, [], fun vs _ => vs)
abbrev pats_Format__plane_size : List Pat := [pat_Format__plane_size_0]
abbrev pat_Format_coded_size_0 : Pat := (2, [], fun vs _ => vs)
abbrev pats_Format_coded_size : List Pat := [pat_Format_coded_size_0]
abbrev pat__law_middle_0 : Pat := (1, [], fun vs _ => vs)
abbrev pats__law_middle : List Pat := [pat__law_middle_0]
abbrev pat__check_shape_0 : Pat := (2, [], fun vs _ => vs)
abbrev pats__check_shape : List Pat := [pat__check_shape_0]
abbrev pat_Format_size_0 : Pat := (2, [], fun vs _ => vs)
abbrev pats_Format_size : List Pat := [pat_Format_size_0]
abbrev pat__sizes_0 : Pat := (1, [], fun vs _ => vs)
abbrev pats__sizes : List Pat := [pat__sizes_0]
abbrev pats_Format_top : List Pat := []
abbrev pat_check_frame_0 : Pat := (2, [], fun vs _ => vs)
abbrev pats_check_frame : List Pat := [pat_check_frame_0]
abbrev pat__pad_plane_0 : Pat := (2, [], fun vs _ => vs)
abbrev pats__pad_plane : List Pat := [pat__pad_plane_0]
abbrev pat__coded_sizes_0 : Pat := (1, [], fun vs _ => vs)
abbrev pats__coded_sizes : List Pat := [pat__coded_sizes_0]
abbrev pat_pad_frame_0 : Pat := (2, [], fun vs _ => vs)
abbrev pats_pad_frame : List Pat := [pat_pad_frame_0]
abbrev pats_Format_middle : List Pat := []
abbrev pat_flat_frame_0 : Pat := (1, [], fun vs _ => vs ++ [V.non])
abbrev pats_flat_frame : List Pat := [pat_flat_frame_0]
abbrev pat_middle_planes_0 : Pat := (1, [], fun vs _ => vs)
abbrev pats_middle_planes : List Pat := [pat_middle_planes_0]
abbrev pat__check_numbers_0 : Pat := (2, [], fun vs _ => vs)
abbrev pats__check_numbers : List Pat := [pat__check_numbers_0]
abbrev pat__check_slots_0 : Pat := (2, [], fun vs _ => vs)
abbrev pats__check_slots : List Pat := [pat__check_slots_0]
def gk_PictureHeader___init___0 {α : Type} (us mz ws : List α) : List α := match us, mz, ws with | [a0, a1], [m0, m1, m2], [b0, b1, b2, b3, b4, b5] => [a0, a1, b0, b1, b2, m0, b3, b4, m1, m2, b5] | _, _, _ => []
theorem gknil_PictureHeader___init___0 {α : Type} {us mz ws : List α} (h : us.length ≠ 2 ∨ mz.length ≠ 3 ∨ ws.length ≠ 6) : gk_PictureHeader___init___0 us mz ws = [] := by
  unfold gk_PictureHeader___init___0
  split
  · simp at h
  · rfl
theorem gkrel_PictureHeader___init___0 {vs mz zs : List V} {us mv ws : List Value} (r : Vals vs us) (s : Vals mz mv) (q : Vals zs ws) : Vals (gk_PictureHeader___init___0 vs mz zs) (gk_PictureHeader___init___0 us mv ws) := by
  by_cases h1 : vs.length = 2
  · by_cases h2 : mz.length = 3
    · by_cases h3 : zs.length = 6
      · obtain ⟨a0, a1, rfl⟩ := len2 h1
        obtain ⟨m0, m1, m2, rfl⟩ := len3 h2
        obtain ⟨b0, b1, b2, b3, b4, b5, rfl⟩ := len6 h3
        cases r with | cons r0 r =>
          cases r with | cons r1 r =>
            cases r
            cases s with | cons s0 s =>
              cases s with | cons s1 s =>
                cases s with | cons s2 s =>
                  cases s
                  cases q with | cons q0 q =>
                    cases q with | cons q1 q =>
                      cases q with | cons q2 q =>
                        cases q with | cons q3 q =>
                          cases q with | cons q4 q =>
                            cases q with | cons q5 q =>
                              cases q
                              exact (.cons r0 (.cons r1 (.cons q0 (.cons q1 (.cons q2 (.cons s0 (.cons q3 (.cons q4 (.cons s1 (.cons s2 (.cons q5 .nil)))))))))))
      · have k : ws.length ≠ 6 := fun z => h3 (q.length.trans z)
        rw [gknil_PictureHeader___init___0 (by first | exact .inl h3 | exact .inr (.inl h3) | exact .inr (.inr h3)), gknil_PictureHeader___init___0 (by first | exact .inl k | exact .inr (.inl k) | exact .inr (.inr k))]
        exact .nil
    · have k : mv.length ≠ 3 := fun z => h2 (s.length.trans z)
      rw [gknil_PictureHeader___init___0 (by first | exact .inl h2 | exact .inr (.inl h2) | exact .inr (.inr h2)), gknil_PictureHeader___init___0 (by first | exact .inl k | exact .inr (.inl k) | exact .inr (.inr k))]
      exact .nil
  · have k : us.length ≠ 2 := fun z => h1 (r.length.trans z)
    rw [gknil_PictureHeader___init___0 (by first | exact .inl h1 | exact .inr (.inl h1) | exact .inr (.inr h1)), gknil_PictureHeader___init___0 (by first | exact .inl k | exact .inr (.inl k) | exact .inr (.inr k))]
    exact .nil
abbrev pat_PictureHeader___init___0 (AD : Ads) : Pat := (2, ["number", "kind", "level", "refs", "weight", "edge"], fun vs zs => gk_PictureHeader___init___0 vs [V.ref AD.td_PictureHeader___init___store, V.int 0, V.bl true] zs)
abbrev pats_PictureHeader___init__ (AD : Ads) : List Pat := [pat_PictureHeader___init___0 AD]
abbrev pat__law_header_0 : Pat := (4, [], fun vs _ => vs)
abbrev pats__law_header : List Pat := [pat__law_header_0]
abbrev pat_copy_planes_0 : Pat := (1, [], fun vs _ => vs)
abbrev pats_copy_planes : List Pat := [pat_copy_planes_0]
abbrev pat__content_0 : Pat := (2, [], fun vs _ => vs)
abbrev pats__content : List Pat := [pat__content_0]
abbrev pat_references_of_0 : Pat := (3, [], fun vs _ => vs)
abbrev pats_references_of : List Pat := [pat_references_of_0]
abbrev pat__law_cell_0 : Pat := (2, [], fun vs _ => vs)
abbrev pats__law_cell : List Pat := [pat__law_cell_0]
abbrev pat__law_planes_0 : Pat := (3, [], fun vs _ => vs)
abbrev pats__law_planes : List Pat := [pat__law_planes_0]
abbrev pats_law : List Pat := []
def sp__law_digits (K : PySem.W.Frag) (AD : Ads) : Sp := fun vs H Q E => ∃ (G : Hp) (cell' : Int) (base' : Int) (most' : Int), vs = [.int cell', .int base', .int most'] ∧ Same G H ∧ cW (F__law_digits cell' base' most') (fun v => ∀ p H', H p = none → Same H H' → H' p = some (.lst (v.map V.int)) → Q (.ref p) H') (fun e => ∀ H', Same H H' → E (.ref (excA AD e)) none H')
def sp_Format___init__ (K : PySem.W.Frag) (AD : Ads) : Sp := fun vs H Q E => ∃ (G : Hp) (p_self dx_self : Addr) (width' : Int) (height' : Int) (depth' : Int) (chroma' : Int), vs = [.ref p_self, .int width', .int height', .int depth', .int chroma'] ∧ Same G H ∧ (∀ a ∈ [p_self], G a = none) ∧ H p_self = some (.ins AD.c_Format dx_self []) ∧ cW (F_Format___init__ width' height' depth' chroma') (fun v => ∀ (H' : Hp), SameX p_self H H' → H' p_self = some (.ins AD.c_Format dx_self [("width", V.int v.width), ("height", V.int v.height), ("depth", V.int v.depth), ("chroma", V.int v.chroma)]) → Q .non H') (fun e => ∀ H', SameX p_self H H' → E (.ref (excA AD e)) none H')
def sp__require (K : PySem.W.Frag) (AD : Ads) : Sp := fun vs H Q E => ∃ (G : Hp) (holds' : Bool) (text' : Str), vs = [.bl holds', .str text'] ∧ Same G H ∧ cW (F__require holds' text') (fun v => Q .non H) (fun e => E (.ref (excA AD e)) none H)
def sp_Settings___init__ (K : PySem.W.Frag) (AD : Ads) : Sp := fun vs H Q E => ∃ (G : Hp) (p_self dx_self : Addr) (p_fmt dx_fmt : Addr) (fmt' : St_Format) (slots' : Int) (rows' : Int) (deblock' : Bool) (offset' : Bool) (layers' : Int), vs = [.ref p_self, .ref p_fmt, .int slots', .int rows', .bl deblock', .bl offset', .int layers'] ∧ Same G H ∧ (∀ a ∈ [p_self], G a = none) ∧ H p_self = some (.ins AD.c_Settings dx_self []) ∧ (hideL [p_self] H) p_fmt = some (.ins AD.c_Format dx_fmt [("width", V.int fmt'.width), ("height", V.int fmt'.height), ("depth", V.int fmt'.depth), ("chroma", V.int fmt'.chroma)]) ∧ cW (F_Settings___init__ fmt' slots' rows' deblock' offset' layers') (fun v => ∀ (H' : Hp), SameX p_self H H' → H' p_self = some (.ins AD.c_Settings dx_self [("fmt", V.ref p_fmt), ("slots", V.int v.slots), ("rows", V.int v.rows), ("deblock", V.bl v.deblock), ("offset", V.bl v.offset), ("layers", V.int v.layers)]) → Q .non H') (fun e => ∀ H', SameX p_self H H' → E (.ref (excA AD e)) none H')
def sp_Format_planes (K : PySem.W.Frag) (AD : Ads) : Sp := fun vs H Q E => ∃ (G : Hp) (p_self dx_self : Addr) (self' : St_Format), vs = [.ref p_self] ∧ Same G H ∧ (hideL [] H) p_self = some (.ins AD.c_Format dx_self [("width", V.int self'.width), ("height", V.int self'.height), ("depth", V.int self'.depth), ("chroma", V.int self'.chroma)]) ∧ cW (F_Format_planes self') (fun v => ∀ H', Same H H' → Q (.int v) H') (fun e => ∀ H', Same H H' → E (.ref (excA AD e)) none H')
def sp_Format_blocks (K : PySem.W.Frag) (AD : Ads) : Sp := fun vs H Q E => ∃ (G : Hp) (p_self dx_self : Addr) (self' : St_Format), vs = [.ref p_self] ∧ Same G H ∧ (hideL [] H) p_self = some (.ins AD.c_Format dx_self [("width", V.int self'.width), ("height", V.int self'.height), ("depth", V.int self'.depth), ("chroma", V.int self'.chroma)]) ∧ cW (F_Format_blocks self') (fun v => ∀ u H' G', Same H H' → Same G G' → Same G' H' → (∀ b, H b ≠ none → G b = none → G' b = none) → Rp G' u ((encT2 PyData.int PyData.int) v) → Q u H') (fun e => ∀ H', Same H H' → E (.ref (excA AD e)) none H')
def sp_Format__plane_size (K : PySem.W.Frag) (AD : Ads) : Sp := fun vs H Q E => ∃ (G : Hp) (p_self dx_self : Addr) (self' : St_Format) (plane' : Int) (width' : Int) (height' : Int), vs = [.ref p_self, .int plane', .int width', .int height'] ∧ Same G H ∧ (hideL [] H) p_self = some (.ins AD.c_Format dx_self [("width", V.int self'.width), ("height", V.int self'.height), ("depth", V.int self'.depth), ("chroma", V.int self'.chroma)]) ∧ cW (F_Format__plane_size self' plane' width' height') (fun v => ∀ u H' G', Same H H' → Same G G' → Same G' H' → (∀ b, H b ≠ none → G b = none → G' b = none) → Rp G' u ((encT2 PyData.int PyData.int) v) → Q u H') (fun e => ∀ H', Same H H' → E (.ref (excA AD e)) none H')
def sp_Format_coded_size (K : PySem.W.Frag) (AD : Ads) : Sp := fun vs H Q E => ∃ (G : Hp) (p_self dx_self : Addr) (self' : St_Format) (plane' : Int), vs = [.ref p_self, .int plane'] ∧ Same G H ∧ (hideL [] H) p_self = some (.ins AD.c_Format dx_self [("width", V.int self'.width), ("height", V.int self'.height), ("depth", V.int self'.depth), ("chroma", V.int self'.chroma)]) ∧ cW (F_Format_coded_size self' plane') (fun v => ∀ u H' G', Same H H' → Same G G' → Same G' H' → (∀ b, H b ≠ none → G b = none → G' b = none) → Rp G' u ((encT2 PyData.int PyData.int) v) → Q u H') (fun e => ∀ H', Same H H' → E (.ref (excA AD e)) none H')
def sp__law_middle (K : PySem.W.Frag) (AD : Ads) : Sp := fun vs H Q E => ∃ (G : Hp) (p_fmt dx_fmt : Addr) (fmt' : St_Format), vs = [.ref p_fmt] ∧ Same G H ∧ (hideL [] H) p_fmt = some (.ins AD.c_Format dx_fmt [("width", V.int fmt'.width), ("height", V.int fmt'.height), ("depth", V.int fmt'.depth), ("chroma", V.int fmt'.chroma)]) ∧ cW (F__law_middle fmt') (fun v => ∀ u H' G', Same H H' → Same G G' → Same G' H' → (∀ b, H b ≠ none → G b = none → G' b = none) → Rp G' u ((encL (encL (encL PyData.int))) v) → Q u H') (fun e => ∀ H', Same H H' → E (.ref (excA AD e)) none H')
def sp__check_shape (K : PySem.W.Frag) (AD : Ads) : Sp := fun vs H Q E => ∃ (G : Hp) (v_planes : V) (planes' : (List (List (List Int)))) (v_sizes : V) (sizes' : (List (Int × Int))), vs = [v_planes, v_sizes] ∧ Same G H ∧ Rp (hideL [] H) v_planes ((encL (encL (encL PyData.int))) planes') ∧ Rp (hideL [] H) v_sizes ((encL (encT2 PyData.int PyData.int)) sizes') ∧ cW (F__check_shape planes' sizes') (fun v => ∀ H', Same H H' → Q .non H') (fun e => ∀ H', Same H H' → E (.ref (excA AD e)) none H')
def sp_Format_size (K : PySem.W.Frag) (AD : Ads) : Sp := fun vs H Q E => ∃ (G : Hp) (p_self dx_self : Addr) (self' : St_Format) (plane' : Int), vs = [.ref p_self, .int plane'] ∧ Same G H ∧ (hideL [] H) p_self = some (.ins AD.c_Format dx_self [("width", V.int self'.width), ("height", V.int self'.height), ("depth", V.int self'.depth), ("chroma", V.int self'.chroma)]) ∧ cW (F_Format_size self' plane') (fun v => ∀ u H' G', Same H H' → Same G G' → Same G' H' → (∀ b, H b ≠ none → G b = none → G' b = none) → Rp G' u ((encT2 PyData.int PyData.int) v) → Q u H') (fun e => ∀ H', Same H H' → E (.ref (excA AD e)) none H')
def sp__sizes (K : PySem.W.Frag) (AD : Ads) : Sp := fun vs H Q E => ∃ (G : Hp) (p_fmt dx_fmt : Addr) (fmt' : St_Format), vs = [.ref p_fmt] ∧ Same G H ∧ (hideL [] H) p_fmt = some (.ins AD.c_Format dx_fmt [("width", V.int fmt'.width), ("height", V.int fmt'.height), ("depth", V.int fmt'.depth), ("chroma", V.int fmt'.chroma)]) ∧ cW (F__sizes fmt') (fun v => ∀ p vs H' G', H p = none → Same H H' → Same G G' → Same G' H' → (∀ b, H b ≠ none → G b = none → G' b = none) → G' p = none → H' p = some (.lst vs) → RpAll G' vs (v.map (encT2 PyData.int PyData.int)) → Q (.ref p) H') (fun e => ∀ H', Same H H' → E (.ref (excA AD e)) none H')
def sp_Format_top (K : PySem.W.Frag) (AD : Ads) : Sp := fun vs H Q E => ∃ (G : Hp) (p_self dx_self : Addr) (self' : St_Format), vs = [.ref p_self] ∧ Same G H ∧ (hideL [] H) p_self = some (.ins AD.c_Format dx_self [("width", V.int self'.width), ("height", V.int self'.height), ("depth", V.int self'.depth), ("chroma", V.int self'.chroma)]) ∧ cW (F_Format_top self') (fun v => ∀ H', Same H H' → Q (.int v) H') (fun e => ∀ H', Same H H' → E (.ref (excA AD e)) none H')
def sp_check_frame (K : PySem.W.Frag) (AD : Ads) : Sp := fun vs H Q E => ∃ (G : Hp) (p_fmt dx_fmt : Addr) (fmt' : St_Format) (v_frame : V) (frame' : (List (List (List Int)))), vs = [.ref p_fmt, v_frame] ∧ Same G H ∧ (hideL [] H) p_fmt = some (.ins AD.c_Format dx_fmt [("width", V.int fmt'.width), ("height", V.int fmt'.height), ("depth", V.int fmt'.depth), ("chroma", V.int fmt'.chroma)]) ∧ Rp (hideL [] H) v_frame ((encL (encL (encL PyData.int))) frame') ∧ cW (F_check_frame fmt' frame') (fun v => ∀ H', Same H H' → Q .non H') (fun e => ∀ H', Same H H' → E (.ref (excA AD e)) none H')
def sp__pad_plane (K : PySem.W.Frag) (AD : Ads) : Sp := fun vs H Q E => ∃ (G : Hp) (v_plane : V) (plane' : (List (List Int))) (v_size : V) (size' : (Int × Int)), vs = [v_plane, v_size] ∧ Same G H ∧ Rp (hideL [] H) v_plane ((encL (encL PyData.int)) plane') ∧ Rp (hideL [] H) v_size ((encT2 PyData.int PyData.int) size') ∧ cW (F__pad_plane plane' size') (fun v => ∀ (H' : Hp) (a : Addr) (vs : List V) (L : List Addr) (G' : Hp), H a = none → (∀ b ∈ L, H b = none) → (∀ b ∈ L, b ≠ a) → Same H H' → Same G G' → Same G' H' → (∀ b, H b ≠ none → G b = none → G' b = none) → G' a = none → (∀ b ∈ L, G' b = none) → H' a = some (.lst vs) → OwAll G' H' L vs ((v : (List (List Int))).map (oL oI)) → Q (.ref a) H') (fun e => ∀ H', Same H H' → E (.ref (excA AD e)) none H')
def sp__coded_sizes (K : PySem.W.Frag) (AD : Ads) : Sp := fun vs H Q E => ∃ (G : Hp) (p_fmt dx_fmt : Addr) (fmt' : St_Format), vs = [.ref p_fmt] ∧ Same G H ∧ (hideL [] H) p_fmt = some (.ins AD.c_Format dx_fmt [("width", V.int fmt'.width), ("height", V.int fmt'.height), ("depth", V.int fmt'.depth), ("chroma", V.int fmt'.chroma)]) ∧ cW (F__coded_sizes fmt') (fun v => ∀ p vs H' G', H p = none → Same H H' → Same G G' → Same G' H' → (∀ b, H b ≠ none → G b = none → G' b = none) → G' p = none → H' p = some (.lst vs) → RpAll G' vs (v.map (encT2 PyData.int PyData.int)) → Q (.ref p) H') (fun e => ∀ H', Same H H' → E (.ref (excA AD e)) none H')
def sp_pad_frame (K : PySem.W.Frag) (AD : Ads) : Sp := fun vs H Q E => ∃ (G : Hp) (p_fmt dx_fmt : Addr) (fmt' : St_Format) (v_frame : V) (frame' : (List (List (List Int)))), vs = [.ref p_fmt, v_frame] ∧ Same G H ∧ (hideL [] H) p_fmt = some (.ins AD.c_Format dx_fmt [("width", V.int fmt'.width), ("height", V.int fmt'.height), ("depth", V.int fmt'.depth), ("chroma", V.int fmt'.chroma)]) ∧ Rp (hideL [] H) v_frame ((encL (encL (encL PyData.int))) frame') ∧ cW (F_pad_frame fmt' frame') (fun v => ∀ (H' : Hp) (a : Addr) (vs : List V) (L : List Addr) (G' : Hp), H a = none → (∀ b ∈ L, H b = none) → (∀ b ∈ L, b ≠ a) → Same H H' → Same G G' → Same G' H' → (∀ b, H b ≠ none → G b = none → G' b = none) → G' a = none → (∀ b ∈ L, G' b = none) → H' a = some (.lst vs) → OwAll G' H' L vs ((v : (List (List (List Int)))).map (oL (oL oI))) → Q (.ref a) H') (fun e => ∀ H', Same H H' → E (.ref (excA AD e)) none H')
def sp_Format_middle (K : PySem.W.Frag) (AD : Ads) : Sp := fun vs H Q E => ∃ (G : Hp) (p_self dx_self : Addr) (self' : St_Format), vs = [.ref p_self] ∧ Same G H ∧ (hideL [] H) p_self = some (.ins AD.c_Format dx_self [("width", V.int self'.width), ("height", V.int self'.height), ("depth", V.int self'.depth), ("chroma", V.int self'.chroma)]) ∧ cW (F_Format_middle self') (fun v => ∀ H', Same H H' → Q (.int v) H') (fun e => ∀ H', Same H H' → E (.ref (excA AD e)) none H')
def sp_flat_frame (K : PySem.W.Frag) (AD : Ads) : Sp := fun vs H Q E => ∃ (G : Hp) (p_fmt dx_fmt : Addr) (fmt' : St_Format) (v_value : V) (value' : PyData), vs = [.ref p_fmt, v_value] ∧ Same G H ∧ (hideL [] H) p_fmt = some (.ins AD.c_Format dx_fmt [("width", V.int fmt'.width), ("height", V.int fmt'.height), ("depth", V.int fmt'.depth), ("chroma", V.int fmt'.chroma)]) ∧ Rp (hideL [] H) v_value (encD value') ∧ cW (F_flat_frame fmt' value') (fun v => ∀ (H' : Hp) (a : Addr) (vs : List V) (L : List Addr) (G' : Hp), H a = none → (∀ b ∈ L, H b = none) → (∀ b ∈ L, b ≠ a) → Same H H' → Same G G' → Same G' H' → (∀ b, H b ≠ none → G b = none → G' b = none) → G' a = none → (∀ b ∈ L, G' b = none) → H' a = some (.lst vs) → OwAll G' H' L vs ((v : (List (List (List Int)))).map (oL (oL oI))) → Q (.ref a) H') (fun e => ∀ H', Same H H' → E (.ref (excA AD e)) none H')
def sp_middle_planes (K : PySem.W.Frag) (AD : Ads) : Sp := fun vs H Q E => ∃ (G : Hp) (p_fmt dx_fmt : Addr) (fmt' : St_Format), vs = [.ref p_fmt] ∧ Same G H ∧ (hideL [] H) p_fmt = some (.ins AD.c_Format dx_fmt [("width", V.int fmt'.width), ("height", V.int fmt'.height), ("depth", V.int fmt'.depth), ("chroma", V.int fmt'.chroma)]) ∧ cW (F_middle_planes fmt') (fun v => ∀ (H' : Hp) (a : Addr) (vs : List V) (L : List Addr) (G' : Hp), H a = none → (∀ b ∈ L, H b = none) → (∀ b ∈ L, b ≠ a) → Same H H' → Same G G' → Same G' H' → (∀ b, H b ≠ none → G b = none → G' b = none) → G' a = none → (∀ b ∈ L, G' b = none) → H' a = some (.lst vs) → OwAll G' H' L vs ((v : (List (List (List Int)))).map (oL (oL oI))) → Q (.ref a) H') (fun e => ∀ H', Same H H' → E (.ref (excA AD e)) none H')
def sp__check_numbers (K : PySem.W.Frag) (AD : Ads) : Sp := fun vs H Q E => ∃ (G : Hp) (p_settings p_settings_fmt dx_settings dx_settings_fmt : Addr) (settings' : St_Settings) (p_header l_header_store l_header_refs dx_header : Addr) (header' : St_PictureHeader), vs = [.ref p_settings, .ref p_header] ∧ Same G H ∧ (hideL [] H) p_settings = some (.ins AD.c_Settings dx_settings [("fmt", V.ref p_settings_fmt), ("slots", V.int settings'.slots), ("rows", V.int settings'.rows), ("deblock", V.bl settings'.deblock), ("offset", V.bl settings'.offset), ("layers", V.int settings'.layers)]) ∧ (hideL [] H) p_settings_fmt = some (.ins AD.c_Format dx_settings_fmt [("width", V.int settings'.fmt.width), ("height", V.int settings'.fmt.height), ("depth", V.int settings'.fmt.depth), ("chroma", V.int settings'.fmt.chroma)]) ∧ (hideL [] H) p_header = some (.ins AD.c_PictureHeader dx_header [("number", V.int header'.number), ("kind", V.str header'.kind), ("level", V.int header'.level), ("store", V.ref l_header_store), ("refs", V.ref l_header_refs), ("weight", V.int header'.weight), ("layer", V.int header'.layer), ("shown", V.bl header'.shown), ("edge", V.int header'.edge)]) ∧ (hideL [] H) l_header_store = some (.lst ((header'.store : (List Int)).map V.int)) ∧ (hideL [] H) l_header_refs = some (.lst ((header'.refs : (List Int)).map V.int)) ∧ cW (F__check_numbers settings' header') (fun v => ∀ H', Same H H' → Q .non H') (fun e => ∀ H', Same H H' → E (.ref (excA AD e)) none H')
def sp__check_slots (K : PySem.W.Frag) (AD : Ads) : Sp := fun vs H Q E => ∃ (G : Hp) (p_settings p_settings_fmt dx_settings dx_settings_fmt : Addr) (settings' : St_Settings) (p_header l_header_store l_header_refs dx_header : Addr) (header' : St_PictureHeader), vs = [.ref p_settings, .ref p_header] ∧ Same G H ∧ (hideL [] H) p_settings = some (.ins AD.c_Settings dx_settings [("fmt", V.ref p_settings_fmt), ("slots", V.int settings'.slots), ("rows", V.int settings'.rows), ("deblock", V.bl settings'.deblock), ("offset", V.bl settings'.offset), ("layers", V.int settings'.layers)]) ∧ (hideL [] H) p_settings_fmt = some (.ins AD.c_Format dx_settings_fmt [("width", V.int settings'.fmt.width), ("height", V.int settings'.fmt.height), ("depth", V.int settings'.fmt.depth), ("chroma", V.int settings'.fmt.chroma)]) ∧ (hideL [] H) p_header = some (.ins AD.c_PictureHeader dx_header [("number", V.int header'.number), ("kind", V.str header'.kind), ("level", V.int header'.level), ("store", V.ref l_header_store), ("refs", V.ref l_header_refs), ("weight", V.int header'.weight), ("layer", V.int header'.layer), ("shown", V.bl header'.shown), ("edge", V.int header'.edge)]) ∧ (hideL [] H) l_header_store = some (.lst ((header'.store : (List Int)).map V.int)) ∧ (hideL [] H) l_header_refs = some (.lst ((header'.refs : (List Int)).map V.int)) ∧ cW (F__check_slots settings' header') (fun v => ∀ H', Same H H' → Q .non H') (fun e => ∀ H', Same H H' → E (.ref (excA AD e)) none H')
def sp_PictureHeader___init__ (K : PySem.W.Frag) (AD : Ads) : Sp := fun vs H Q E => ∃ (G : Hp) (p_self dx_self : Addr) (p_settings p_settings_fmt dx_settings dx_settings_fmt : Addr) (settings' : St_Settings) (number' : Int) (kind' : Str) (level' : Int) (v_store : V) (store' : (List Int)) (v_refs : V) (refs' : (List Int)) (weight' : Int) (layer' : Int) (shown' : Bool) (edge' : Int), vs = [.ref p_self, .ref p_settings, .int number', .str kind', .int level', v_store, v_refs, .int weight', .int layer', .bl shown', .int edge'] ∧ Same G H ∧ (∀ a ∈ [p_self], G a = none) ∧ H p_self = some (.ins AD.c_PictureHeader dx_self []) ∧ (hideL [p_self] H) p_settings = some (.ins AD.c_Settings dx_settings [("fmt", V.ref p_settings_fmt), ("slots", V.int settings'.slots), ("rows", V.int settings'.rows), ("deblock", V.bl settings'.deblock), ("offset", V.bl settings'.offset), ("layers", V.int settings'.layers)]) ∧ (hideL [p_self] H) p_settings_fmt = some (.ins AD.c_Format dx_settings_fmt [("width", V.int settings'.fmt.width), ("height", V.int settings'.fmt.height), ("depth", V.int settings'.fmt.depth), ("chroma", V.int settings'.fmt.chroma)]) ∧ SeqI K (hideL [p_self] H) v_store store' ∧ SeqI K (hideL [p_self] H) v_refs refs' ∧ cW (F_PictureHeader___init__ settings' number' kind' level' store' refs' weight' layer' shown' edge') (fun v => ∀ (H' : Hp) (l_store l_refs : Addr), SameX p_self H H' → H l_store = none → H l_refs = none → l_store ≠ l_refs → H' p_self = some (.ins AD.c_PictureHeader dx_self [("number", V.int v.number), ("kind", V.str v.kind), ("level", V.int v.level), ("store", V.ref l_store), ("refs", V.ref l_refs), ("weight", V.int v.weight), ("layer", V.int v.layer), ("shown", V.bl v.shown), ("edge", V.int v.edge)]) → H' l_store = some (.lst (v.store.map V.int)) → H' l_refs = some (.lst (v.refs.map V.int)) → Q .non H') (fun e => ∀ H', SameX p_self H H' → E (.ref (excA AD e)) none H')
def sp__law_header (K : PySem.W.Frag) (AD : Ads) : Sp := fun vs H Q E => ∃ (G : Hp) (p_settings p_settings_fmt dx_settings dx_settings_fmt : Addr) (settings' : St_Settings) (cell' : Int) (slots' : Int) (deblock' : Bool), vs = [.ref p_settings, .int cell', .int slots', .bl deblock'] ∧ Same G H ∧ (hideL [] H) p_settings = some (.ins AD.c_Settings dx_settings [("fmt", V.ref p_settings_fmt), ("slots", V.int settings'.slots), ("rows", V.int settings'.rows), ("deblock", V.bl settings'.deblock), ("offset", V.bl settings'.offset), ("layers", V.int settings'.layers)]) ∧ (hideL [] H) p_settings_fmt = some (.ins AD.c_Format dx_settings_fmt [("width", V.int settings'.fmt.width), ("height", V.int settings'.fmt.height), ("depth", V.int settings'.fmt.depth), ("chroma", V.int settings'.fmt.chroma)]) ∧ cW (F__law_header settings' cell' slots' deblock') (fun v => ∀ (H' : Hp) (p_ret l_ret_store l_ret_refs dx_ret : Addr), Same H H' → H p_ret = none → H l_ret_store = none → H l_ret_refs = none → l_ret_store ≠ l_ret_refs → H' p_ret = some (.ins AD.c_PictureHeader dx_ret [("number", V.int v.number), ("kind", V.str v.kind), ("level", V.int v.level), ("store", V.ref l_ret_store), ("refs", V.ref l_ret_refs), ("weight", V.int v.weight), ("layer", V.int v.layer), ("shown", V.bl v.shown), ("edge", V.int v.edge)]) → H' l_ret_store = some (.lst ((v.store : (List Int)).map V.int)) → H' l_ret_refs = some (.lst ((v.refs : (List Int)).map V.int)) → Q (.ref p_ret) H') (fun e => ∀ H', Same H H' → E (.ref (excA AD e)) none H')
def sp_copy_planes (K : PySem.W.Frag) (AD : Ads) : Sp := fun vs H Q E => ∃ (G : Hp) (v_planes : V) (planes' : (List (List (List Int)))), vs = [v_planes] ∧ Same G H ∧ Rp (hideL [] H) v_planes ((encL (encL (encL PyData.int))) planes') ∧ cW (F_copy_planes planes') (fun v => ∀ (H' : Hp) (a : Addr) (vs : List V) (L : List Addr) (G' : Hp), H a = none → (∀ b ∈ L, H b = none) → (∀ b ∈ L, b ≠ a) → Same H H' → Same G G' → Same G' H' → (∀ b, H b ≠ none → G b = none → G' b = none) → G' a = none → (∀ b ∈ L, G' b = none) → H' a = some (.lst vs) → OwAll G' H' L vs ((v : (List (List (List Int)))).map (oL (oL oI))) → Q (.ref a) H') (fun e => ∀ H', Same H H' → E (.ref (excA AD e)) none H')
def sp__content (K : PySem.W.Frag) (AD : Ads) : Sp := fun vs H Q E => ∃ (G : Hp) (p_fmt dx_fmt : Addr) (fmt' : St_Format) (v_planes : V) (planes' : PyData), vs = [.ref p_fmt, v_planes] ∧ Same G H ∧ (hideL [] H) p_fmt = some (.ins AD.c_Format dx_fmt [("width", V.int fmt'.width), ("height", V.int fmt'.height), ("depth", V.int fmt'.depth), ("chroma", V.int fmt'.chroma)]) ∧ Rp (hideL [] H) v_planes (encD planes') ∧ cW (F__content fmt' planes') (fun v => ∀ (H' : Hp) (a : Addr) (vs : List V) (L : List Addr) (G' : Hp), H a = none → (∀ b ∈ L, H b = none) → (∀ b ∈ L, b ≠ a) → Same H H' → Same G G' → Same G' H' → (∀ b, H b ≠ none → G b = none → G' b = none) → G' a = none → (∀ b ∈ L, G' b = none) → H' a = some (.lst vs) → OwAll G' H' L vs ((v : (List (List (List Int)))).map (oL (oL oI))) → Q (.ref a) H') (fun e => ∀ H', Same H H' → E (.ref (excA AD e)) none H')
def sp_references_of (K : PySem.W.Frag) (AD : Ads) : Sp := fun vs H Q E => ∃ (G : Hp) (p_settings p_settings_fmt dx_settings dx_settings_fmt : Addr) (settings' : St_Settings) (p_header l_header_store l_header_refs dx_header : Addr) (header' : St_PictureHeader) (v_slots : V) (slots' : (List PyData)), vs = [.ref p_settings, .ref p_header, v_slots] ∧ Same G H ∧ (hideL [] H) p_settings = some (.ins AD.c_Settings dx_settings [("fmt", V.ref p_settings_fmt), ("slots", V.int settings'.slots), ("rows", V.int settings'.rows), ("deblock", V.bl settings'.deblock), ("offset", V.bl settings'.offset), ("layers", V.int settings'.layers)]) ∧ (hideL [] H) p_settings_fmt = some (.ins AD.c_Format dx_settings_fmt [("width", V.int settings'.fmt.width), ("height", V.int settings'.fmt.height), ("depth", V.int settings'.fmt.depth), ("chroma", V.int settings'.fmt.chroma)]) ∧ (hideL [] H) p_header = some (.ins AD.c_PictureHeader dx_header [("number", V.int header'.number), ("kind", V.str header'.kind), ("level", V.int header'.level), ("store", V.ref l_header_store), ("refs", V.ref l_header_refs), ("weight", V.int header'.weight), ("layer", V.int header'.layer), ("shown", V.bl header'.shown), ("edge", V.int header'.edge)]) ∧ (hideL [] H) l_header_store = some (.lst ((header'.store : (List Int)).map V.int)) ∧ (hideL [] H) l_header_refs = some (.lst ((header'.refs : (List Int)).map V.int)) ∧ Rp (hideL [] H) v_slots ((encL encD) slots') ∧ cW (F_references_of settings' header' slots') (fun v => ∀ (H' : Hp) (a : Addr) (vs : List V) (L : List Addr) (G' : Hp), H a = none → (∀ b ∈ L, H b = none) → (∀ b ∈ L, b ≠ a) → Same H H' → Same G G' → Same G' H' → (∀ b, H b ≠ none → G b = none → G' b = none) → G' a = none → (∀ b ∈ L, G' b = none) → H' a = some (.lst vs) → OwAll G' H' L vs ((v : (List (List (List (List Int))))).map (oL (oL (oL oI)))) → Q (.ref a) H') (fun e => ∀ H', Same H H' → E (.ref (excA AD e)) none H')
def sp__law_cell (K : PySem.W.Frag) (AD : Ads) : Sp := fun vs H Q E => ∃ (G : Hp) (a_script : Addr) (script' : List Int) (k' : Int), vs = [.ref a_script, .int k'] ∧ Same G H ∧ SqL K H a_script ((script' : List Int).map V.int) ∧ cW (F__law_cell script' k') (fun v => Q (.int v) H) (fun e => E (.ref (excA AD e)) none H)
def sp__law_planes (K : PySem.W.Frag) (AD : Ads) : Sp := fun vs H Q E => ∃ (G : Hp) (cell' : Int) (p_fmt dx_fmt : Addr) (fmt' : St_Format) (top' : Int), vs = [.int cell', .ref p_fmt, .int top'] ∧ Same G H ∧ (hideL [] H) p_fmt = some (.ins AD.c_Format dx_fmt [("width", V.int fmt'.width), ("height", V.int fmt'.height), ("depth", V.int fmt'.depth), ("chroma", V.int fmt'.chroma)]) ∧ cW (F__law_planes cell' fmt' top') (fun v => ∀ u H' G', Same H H' → Same G G' → Same G' H' → (∀ b, H b ≠ none → G b = none → G' b = none) → Rp G' u ((encL (encL (encL PyData.int))) v) → Q u H') (fun e => ∀ H', Same H H' → E (.ref (excA AD e)) none H')
def sp_law (K : PySem.W.Frag) (AD : Ads) : Sp := fun vs H Q E => ∃ (a_script : Addr) (script : List Int), vs = [.ref a_script] ∧ SqL K H a_script (script.map V.int) ∧ cW (F_law script) (fun v => v = true) (fun _ => False) ∧ ∀ H', Q (.bl true) H'
section
variable {P : Program} {w : World} {K : PySem.W.Frag} {mg : Str → Option Value} {base : Heap} {AD : Ads}
abbrev N__law_digits : List Str := ["cell", "base", "most", "digits", "large", "k"]
theorem sc__law_digits : FnScope N__law_digits ["cell", "base", "most"] (defScope s__law_digits) := ⟨rfl, rfl, rfl, by decide +kernel, rfl, by decide +kernel, by decide +kernel⟩
theorem ok__law_digits (D : DefX K mg "_law_digits" s__law_digits ["cell", "base", "most"] pats__law_digits) (T : Txt w K mg AD)  : CalX P w K mg base 1 "_law_digits" (sp__law_digits K AD) pats__law_digits := by
  refine D.ok sc__law_digits (fun vs H Q E h => ?_) (fun f cdv A_ outer s H vs Q E hr h => ?_)
  · obtain ⟨G, cell', base', most', rfl, _⟩ := h
    rfl
  · obtain ⟨G, cell', base', most', rfl, sG, hw⟩ := h
    refine ⟨_, (pss_cons (ps_set (i := 3) sc__law_digits.nd rfl (Or.inl rfl) (pe_lst pa_nil))
      (pss_cons (ps_set (i := 4) sc__law_digits.nd rfl (Or.inl rfl) (pe_cmp (pc_ge (pv 0) (pe_op op_pow pe_int pe_int))))
      (pss_cons (ps_for (passes_of rfl) rfl (pi_range1 rfl T.b_range (pa_cons (pv 2) pa_nil)) (pg_name (i := 5) sc__law_digits.nd rfl (Or.inl rfl)) (pss_one (ps_if (pt_val (pv 4)) (pss_cons (ps_expr (pe_bm PySem.F.plainAttrs_list PySem.F.slot_list_append PySem.F.type_list_append mt_append (pv 3) (pa_cons (pe_op op_mod (pe_callTy call_int1 (by rfl) T.b_int (by decide +kernel) (pa_cons (pv 0) pa_nil)) (pv 1)) pa_nil)))
      (pss_one (ps_set (i := 0) sc__law_digits.nd rfl (Or.inl rfl) (pe_op op_fdivW (pv 0) (pv 1))))) (pss_one (ps_expr (pe_bm PySem.F.plainAttrs_list PySem.F.slot_list_append PySem.F.type_list_append mt_append (pv 3) (pa_cons (pe_op op_mod (pe_op op_mod (pe_callTy call_int1 (by rfl) T.b_int (by decide +kernel) (pa_cons (pe_op op_add (pe_op op_add (pe_op op_mul (pv 0) pe_int) (pe_op op_mul (pe_op op_mul (pe_op op_add (pv 5) pe_int) (pe_op op_add (pv 5) pe_int)) pe_int)) (pe_op op_mul (pe_op op_fdivW (pv 0) pe_int) (pv 5))) pa_nil)) pe_int) (pv 1)) pa_nil)))))))
      (pss_one (ps_ret (pv 3)))))), ?_⟩
    obtain ⟨KK, EE, hK0, hE, hw⟩ := cW_gen hw
    have S0 := Sep.startG sG
    unfold F__law_digits at hw
    refine ⟨(by show 0 ≤ sizeLine; decide), fun p1 n2 => ?_⟩
    generalize g3 : upd H p1 _ = H4
    obtain ⟨e5, h6⟩ := gen_new n2 g3
    have h7 : H4 p1 = some (.lst ((([] : (List Int)) : (List Int)).map V.int)) := h6
    have fr8 := S0.free n2
    have S9 := S0.new n2 e5 h7 fr8
    refine ⟨_, rfl, _, _, rfl, rfl, ⟨by decide, by decide, by decide⟩, _, _, rfl, rfl, ?_⟩
    have hw := cW_bnd hw
    obtain ⟨g11, hw⟩ := cW_grd hw
    obtain ⟨K14, hK15, hw⟩ := cW_push hw
    refine ⟨_, rfl, _, rfl, g11.1, g11.2, for_range (lo := 0) (n := Int.toNat (most')) (fun i σ H' => ∃ (cell_16 : Int) (digits_17 : (List Int)) (u18 : Option V) (G' : Hp), σ = [some (V.int cell_16), some (V.int (base')), some (V.int (most')), some (V.ref p1), some (V.bl (decide (((10 : Int) ^ Int.toNat 18) ≤ cell'))), u18] ∧ Same G G' ∧ Sep [] H G G' H' [p1] ∧ H' p1 = some (.lst ((digits_17 : (List Int)).map V.int)) ∧ cW (forS (List.drop i (rng (0) (Int.toNat (most')))) (cell_16, digits_17) (fun s x => F__law_digits_b1 (base') (decide (((10 : Int) ^ Int.toNat 18) ≤ cell')) (s.1) (s.2) x)) K14 EE) ?_ ?_ ?_⟩
    · exact ⟨(cell'), (([] : (List Int))), _, _, rfl, (Same.refl _), S9, h7, hw⟩
    · intro i σ H19 hi hw
      obtain ⟨cell_16, digits_17, u18, G22, rfl, eG23, S20, h21, hw⟩ := hw
      have hw := cW_forS (rng_get hi) hw
      generalize (0 + (i : Int)) = x24 at hw ⊢
      have hw : cW (F__law_digits_b1 (base') (decide (((10 : Int) ^ Int.toNat 18) ≤ cell')) (cell_16) (digits_17) (x24)) _ EE := hw
      unfold F__law_digits_b1 at hw
      obtain ⟨K27, hK28, hw⟩ := cW_name hw
      refine ⟨_, rfl, _, rfl, ?_⟩
      refine iteB (fun c30 => ?_) (fun c30 => ?_)
      · have hw := cW_pos c30 hw
        refine ⟨_, rfl, (.inl ⟨rfl, _, SqL.of h21⟩), _, rfl, .inl ⟨_, rfl, ?_⟩⟩
        obtain ⟨g31, hw⟩ := cW_grd hw
        obtain ⟨g32, hw⟩ := cW_grd hw
        refine ⟨_, rfl, _, _, rfl, rfl, g31, _, _, _, rfl, rfl, h21, (app_lenM g32), ?_⟩
        generalize g33 : upd H19 p1 _ = H34
        obtain ⟨x35, h36⟩ := gen_mut g33
        have h37 : H34 p1 = some (.lst (((digits_17) ++ [(cell_16 % base')] : (List Int)).map V.int)) := snoc_map h36
        have S38 := S20.mut1 x35 (.head _) h37
        have hw := cW_bnd hw
        obtain ⟨g40, hw⟩ := cW_grd hw
        refine ⟨_, rfl, _, rfl, _, _, rfl, rfl, (divW_small g40.1 g40.2), ?_⟩
        have hw := cW_bnd hw
        have hw := cW_ok hw
        have hw := hK28 _ hw
        exact ⟨((cell_16 / base')), ((digits_17) ++ [(cell_16 % base')]), _, _, rfl, eG23, S38, h37, hw⟩
      · have hw := cW_negB c30 hw
        obtain ⟨g42, hw⟩ := cW_grd hw
        obtain ⟨g43, hw⟩ := cW_grd hw
        refine ⟨_, rfl, (.inl ⟨rfl, _, SqL.of h21⟩), _, rfl, _, _, rfl, rfl, (.inr ⟨by decide, by decide⟩), _, rfl, _, _, rfl, rfl, _, rfl, _, _, rfl, rfl, _, _, rfl, rfl, g42, _, _, rfl, rfl, (.inr ⟨by decide, by decide⟩), _, _, rfl, rfl, _, rfl, _, _, rfl, rfl, (divW_lit (by decide) (by decide)), _, rfl, _, _, rfl, rfl, g43, _, _, rfl, rfl, .inl ⟨_, rfl, ?_⟩⟩
        obtain ⟨g44, hw⟩ := cW_grd hw
        obtain ⟨g45, hw⟩ := cW_grd hw
        refine ⟨_, _, rfl, rfl, (show (0 : Int) < 2147483647 by decide), _, rfl, _, _, rfl, rfl, g44, _, _, _, rfl, rfl, h21, (app_lenM g45), ?_⟩
        generalize g46 : upd H19 p1 _ = H47
        obtain ⟨x48, h49⟩ := gen_mut g46
        have h50 : H47 p1 = some (.lst (((digits_17) ++ [(((((cell_16 * 48271) + (((x24 + 1) * (x24 + 5)) * 69621)) + ((cell_16 / 97) * x24)) % 2147483647) % base')] : (List Int)).map V.int)) := snoc_map h49
        have S51 := S20.mut1 x48 (.head _) h50
        have hw := cW_bnd hw
        have hw := cW_ok hw
        have hw := hK28 _ hw
        exact ⟨(cell_16), ((digits_17) ++ [(((((cell_16 * 48271) + (((x24 + 1) * (x24 + 5)) * 69621)) + ((cell_16 / 97) * x24)) % 2147483647) % base')]), _, _, rfl, eG23, S51, h50, hw⟩
    · intro σ H53 hw
      obtain ⟨cell_16, digits_17, u18, G56, rfl, eG57, S54, h55, hw⟩ := hw
      have hw := hK15 _ (cW_forS0 (rng_len _ _).symm hw)
      have hw : cW (F__law_digits_r1  (cell_16) (digits_17)) _ EE := hw
      unfold F__law_digits_r1 at hw
      refine ⟨_, rfl, ?_⟩
      have hw := cW_ok hw
      exact hK0 _ hw _ _ fr8 S54.b0 h55

abbrev N_Format___init__ : List Str := ["self", "width", "height", "depth", "chroma"]
theorem sc_Format___init__ : FnScope N_Format___init__ ["self", "width", "height", "depth", "chroma"] (defScope s_Format___init__) := ⟨rfl, rfl, rfl, by decide +kernel, rfl, by decide +kernel, by decide +kernel⟩
theorem ok_Format___init__ (D : InitX K mg AD.c_Format "Format" "Format.__init__" s_Format___init__ ["self", "width", "height", "depth", "chroma"] pats_Format___init__) (T : Txt w K mg AD)  : MakX P w K mg base 1 "Format" AD.c_Format (sp_Format___init__ K AD) pats_Format___init__ := by
  refine D.ok sc_Format___init__ (fun vs H Q E h => ?_) (fun f cdv A_ outer s H vs Q E hr h => ?_)
  · obtain ⟨G, p_self, dx_self, width', height', depth', chroma', rfl, _⟩ := h
    rfl
  · obtain ⟨G, p_self, dx_self, width', height', depth', chroma', rfl, sG, gM, h_self, hw⟩ := h
    refine ⟨_, (pss_cons (ps_if (pt_not (PW.pt (pw_and (pt_chain op_le op_le pe_int (pv 1) pe_int) (pw_and1 (pt_chain op_le op_le pe_int (pv 2) pe_int))))) (pss_one (ps_raise rfl (takes_of rfl rfl rfl rfl) (pmk_own PySem.F.excBase_ValueError T.xx_BadFormat T.xg_BadFormat T.xk_BadFormat (raises_own T.xb_BadFormat T.xt_BadFormat) rfl))) pss_nil)
      (pss_cons (ps_if (pt_not (pt_chain op_le op_le pe_int (pv 3) pe_int)) (pss_one (ps_raise rfl (takes_of rfl rfl rfl rfl) (pmk_own PySem.F.excBase_ValueError T.xx_BadFormat T.xg_BadFormat T.xk_BadFormat (raises_own T.xb_BadFormat T.xt_BadFormat) rfl))) pss_nil)
      (pss_cons (ps_if (pt_not (pt_chain op_le op_le pe_int (pv 4) pe_int)) (pss_one (ps_raise rfl (takes_of rfl rfl rfl rfl) (pmk_own PySem.F.excBase_ValueError T.xx_BadFormat T.xg_BadFormat T.xk_BadFormat (raises_own T.xb_BadFormat T.xt_BadFormat) rfl))) pss_nil)
      (pss_cons (ps_fld (pv 0) (pv 1) rfl)
      (pss_cons (ps_fld (pv 0) (pv 2) rfl)
      (pss_cons (ps_fld (pv 0) (pv 3) rfl)
      (pss_one (ps_fld (pv 0) (pv 4) rfl)))))))), ?_⟩
    obtain ⟨KK, EE, hK0, hE, hw⟩ := cW_gen hw
    have S0 := Sep.startM (M := [p_self]) sG (all_cons (some_ne h_self) all_nil) gM
    unfold F_Format___init__ at hw
    refine ⟨_, rfl, _, _, rfl, rfl, _, rfl, ?_⟩
    refine iteD (fun c60 => ?_) (fun c60 => ?_)
    · have hw := cW_pos c60 hw
      refine ⟨_, _, rfl, rfl, _, rfl, ?_⟩
      refine iteD (fun c61 => ?_) (fun c61 => ?_)
      · have hw := cW_pos c61 hw
        refine ⟨_, rfl, _, _, rfl, rfl, _, rfl, ?_⟩
        refine iteD (fun c62 => ?_) (fun c62 => ?_)
        · have hw := cW_pos c62 hw
          refine ⟨_, _, rfl, rfl, _, rfl, ?_⟩
          refine iteN (fun c63 => ?_) (fun c63 => ?_)
          · have hw := cW_neg c63 hw
            exact hE 1 (cW_er hw) _ (sameX_of S0.base)
          · have hw := cW_pos c63 hw
            refine ⟨_, rfl, _, _, rfl, rfl, _, rfl, ?_⟩
            refine iteD (fun c64 => ?_) (fun c64 => ?_)
            · have hw := cW_pos c64 hw
              refine ⟨_, _, rfl, rfl, _, rfl, ?_⟩
              refine iteN (fun c65 => ?_) (fun c65 => ?_)
              · have hw := cW_neg c65 hw
                exact hE 1 (cW_er hw) _ (sameX_of S0.base)
              · have hw := cW_pos c65 hw
                refine ⟨_, rfl, _, _, rfl, rfl, _, rfl, ?_⟩
                refine iteD (fun c66 => ?_) (fun c66 => ?_)
                · have hw := cW_pos c66 hw
                  refine ⟨_, _, rfl, rfl, _, rfl, ?_⟩
                  refine iteN (fun c67 => ?_) (fun c67 => ?_)
                  · have hw := cW_neg c67 hw
                    exact hE 1 (cW_er hw) _ (sameX_of S0.base)
                  · have hw := cW_pos c67 hw
                    refine ⟨_, rfl, _, rfl, _, _, _, _, rfl, h_self, T.cl_Format, T.n_Format_width, (by show 0 < 1000; decide), ?_⟩
                    generalize g68 : upd H p_self _ = H69
                    obtain ⟨x70, h71⟩ := gen_mut g68
                    have h72 : H69 p_self = some (.ins AD.c_Format dx_self [("width", V.int (width'))]) := h71
                    have S73 := S0.mut1 x70 (.head _) h72
                    refine ⟨_, rfl, _, rfl, _, _, _, _, rfl, h72, T.cl_Format, T.n_Format_height, (by show 1 < 1000; decide), ?_⟩
                    generalize g74 : upd H69 p_self _ = H75
                    obtain ⟨x76, h77⟩ := gen_mut g74
                    have h78 : H75 p_self = some (.ins AD.c_Format dx_self [("width", V.int (width')), ("height", V.int (height'))]) := h77
                    have S79 := S73.mut1 x76 (.head _) h78
                    refine ⟨_, rfl, _, rfl, _, _, _, _, rfl, h78, T.cl_Format, T.n_Format_depth, (by show 2 < 1000; decide), ?_⟩
                    generalize g80 : upd H75 p_self _ = H81
                    obtain ⟨x82, h83⟩ := gen_mut g80
                    have h84 : H81 p_self = some (.ins AD.c_Format dx_self [("width", V.int (width')), ("height", V.int (height')), ("depth", V.int (depth'))]) := h83
                    have S85 := S79.mut1 x82 (.head _) h84
                    refine ⟨_, rfl, _, rfl, _, _, _, _, rfl, h84, T.cl_Format, T.n_Format_chroma, (by show 3 < 1000; decide), ?_⟩
                    generalize g86 : upd H81 p_self _ = H87
                    obtain ⟨x88, h89⟩ := gen_mut g86
                    have h90 : H87 p_self = some (.ins AD.c_Format dx_self [("width", V.int (width')), ("height", V.int (height')), ("depth", V.int (depth')), ("chroma", V.int (chroma'))]) := h89
                    have S91 := S85.mut1 x88 (.head _) h90
                    have hw := cW_ok hw
                    exact hK0 _ hw _ (sameX_of S91.base) h90
                · have hw := cW_neg c66 hw
                  refine ⟨_, rfl, ?_⟩
                  refine iteT ?_
                  exact hE 1 (cW_er hw) _ (sameX_of S0.base)
            · have hw := cW_neg c64 hw
              refine ⟨_, rfl, ?_⟩
              refine iteT ?_
              exact hE 1 (cW_er hw) _ (sameX_of S0.base)
        · have hw := cW_neg c62 hw
          refine ⟨_, rfl, ?_⟩
          refine iteT ?_
          exact hE 1 (cW_er hw) _ (sameX_of S0.base)
      · have hw := cW_neg c61 hw
        refine iteT ?_
        exact hE 1 (cW_er hw) _ (sameX_of S0.base)
    · have hw := cW_neg c60 hw
      refine ⟨_, rfl, ?_⟩
      refine iteF ?_
      refine iteT ?_
      exact hE 1 (cW_er hw) _ (sameX_of S0.base)

abbrev N__require : List Str := ["holds", "text"]
theorem sc__require : FnScope N__require ["holds", "text"] (defScope s__require) := ⟨rfl, rfl, rfl, by decide +kernel, rfl, by decide +kernel, by decide +kernel⟩
theorem ok__require (D : DefX K mg "_require" s__require ["holds", "text"] pats__require) (T : Txt w K mg AD)  : CalX P w K mg base 1 "_require" (sp__require K AD) pats__require := by
  refine D.ok sc__require (fun vs H Q E h => ?_) (fun f cdv A_ outer s H vs Q E hr h => ?_)
  · obtain ⟨G, holds', text', rfl, _⟩ := h
    rfl
  · obtain ⟨G, holds', text', rfl, sG, hw⟩ := h
    refine ⟨_, (pss_one (ps_if (pt_not (pt_val (pv 0))) (pss_one (ps_raise rfl (takes_of rfl rfl rfl rfl) (SkE.pmk_own1 PySem.F.excBase_ValueError T.xx_BadHeader T.xg_BadHeader T.xk_BadHeader (raises_own T.xb_BadHeader T.xt_BadHeader) rfl (pv 1)))) pss_nil)), ?_⟩
    obtain ⟨KK, EE, hK0, hE, hw⟩ := cW_gen hw
    have S0 := Sep.startG sG
    unfold F__require at hw
    refine ⟨_, rfl, _, rfl, ?_⟩
    refine iteBN (fun c92 => ?_) (fun c92 => ?_)
    · have hw := cW_negB c92 hw
      refine ⟨_, rfl, ?_⟩
      exact hE 4 (cW_er hw)
    · have hw := cW_pos c92 hw
      have hw := cW_ok hw
      exact hK0 _ hw

abbrev N_Settings___init__ : List Str := ["self", "fmt", "slots", "rows", "deblock", "offset", "layers"]
theorem sc_Settings___init__ : FnScope N_Settings___init__ ["self", "fmt", "slots", "rows", "deblock", "offset", "layers"] (defScope s_Settings___init__) := ⟨rfl, rfl, rfl, by decide +kernel, rfl, by decide +kernel, by decide +kernel⟩
theorem ok_Settings___init__ (D : InitX K mg AD.c_Settings "Settings" "Settings.__init__" s_Settings___init__ ["self", "fmt", "slots", "rows", "deblock", "offset", "layers"] pats_Settings___init__) (T : Txt w K mg AD) (c__require : CalX P w K mg base 1 "_require" (sp__require K AD) pats__require) : MakX P w K mg base 2 "Settings" AD.c_Settings (sp_Settings___init__ K AD) pats_Settings___init__ := by
  refine D.ok sc_Settings___init__ (fun vs H Q E h => ?_) (fun f cdv A_ outer s H vs Q E hr h => ?_)
  · obtain ⟨G, p_self, dx_self, p_fmt, dx_fmt, fmt', slots', rows', deblock', offset', layers', rfl, _⟩ := h
    rfl
  · obtain ⟨G, p_self, dx_self, p_fmt, dx_fmt, fmt', slots', rows', deblock', offset', layers', rfl, sG, gM, h_self, h_p_fmt, hw⟩ := h
    refine ⟨_, (pss_cons (ps_expr (vx_callX c__require pat__require_0 (.head _) hr (by decide) (takes_of rfl rfl rfl rfl) rfl (pa_cons (pe_chain op_le op_le pe_int (pv 2) pe_int) (pa_cons pe_str pa_nil)) pk_nil))
      (pss_cons (ps_expr (vx_callX c__require pat__require_0 (.head _) hr (by decide) (takes_of rfl rfl rfl rfl) rfl (pa_cons (pe_chain op_le op_le pe_int (pv 3) pe_int) (pa_cons pe_str pa_nil)) pk_nil))
      (pss_cons (ps_expr (vx_callX c__require pat__require_0 (.head _) hr (by decide) (takes_of rfl rfl rfl rfl) rfl (pa_cons (pe_chain op_le op_le pe_int (pv 6) pe_int) (pa_cons pe_str pa_nil)) pk_nil))
      (pss_cons (ps_fld (pv 0) (pv 1) rfl)
      (pss_cons (ps_fld (pv 0) (pv 2) rfl)
      (pss_cons (ps_fld (pv 0) (pv 3) rfl)
      (pss_cons (ps_fld (pv 0) (pv 4) rfl)
      (pss_cons (ps_fld (pv 0) (pv 5) rfl)
      (pss_one (ps_fld (pv 0) (pv 6) rfl)))))))))), ?_⟩
    obtain ⟨KK, EE, hK0, hE, hw⟩ := cW_gen hw
    have S0 := Sep.startM (M := [p_self]) sG (all_cons (some_ne h_self) all_nil) gM
    unfold F_Settings___init__ at hw
    refine vv_chain (ta := (tC (V.int 1))) (tb := (tVar 2)) (tc := (tC (V.int 4))) (r := (rI0 fun i j => V.bl (decide (i ≤ j)))) (r' := (rI0 fun i j => V.bl (decide (i ≤ j)))) (x := V.int (1)) (y := V.int (slots')) (z := V.int (4)) (a := decide (1 ≤ slots')) (b := decide (slots' ≤ 4)) ?hx93 ?hy94 ?hz95 (fun Q q => ⟨_, _, rfl, rfl, q⟩) (fun Q q => ⟨_, _, rfl, rfl, q⟩) _ ?_
    case hx93 => exact val_c
    case hy94 => exact (val_var rfl)
    case hz95 => exact val_c
    refine ⟨rfl, rfl, G, _, _, rfl, S0.sG, cW_call hw (fun v96 hw => ?_) (fun e he => hE e he _ (sameX_of S0.base))⟩
    refine vv_chain (ta := (tC (V.int 1))) (tb := (tVar 3)) (tc := (tC (V.int 32))) (r := (rI0 fun i j => V.bl (decide (i ≤ j)))) (r' := (rI0 fun i j => V.bl (decide (i ≤ j)))) (x := V.int (1)) (y := V.int (rows')) (z := V.int (32)) (a := decide (1 ≤ rows')) (b := decide (rows' ≤ 32)) ?hx97 ?hy98 ?hz99 (fun Q q => ⟨_, _, rfl, rfl, q⟩) (fun Q q => ⟨_, _, rfl, rfl, q⟩) _ ?_
    case hx97 => exact val_c
    case hy98 => exact (val_var rfl)
    case hz99 => exact val_c
    refine ⟨rfl, rfl, G, _, _, rfl, S0.sG, cW_call hw (fun v100 hw => ?_) (fun e he => hE e he _ (sameX_of S0.base))⟩
    refine vv_chain (ta := (tC (V.int 1))) (tb := (tVar 6)) (tc := (tC (V.int 4))) (r := (rI0 fun i j => V.bl (decide (i ≤ j)))) (r' := (rI0 fun i j => V.bl (decide (i ≤ j)))) (x := V.int (1)) (y := V.int (layers')) (z := V.int (4)) (a := decide (1 ≤ layers')) (b := decide (layers' ≤ 4)) ?hx101 ?hy102 ?hz103 (fun Q q => ⟨_, _, rfl, rfl, q⟩) (fun Q q => ⟨_, _, rfl, rfl, q⟩) _ ?_
    case hx101 => exact val_c
    case hy102 => exact (val_var rfl)
    case hz103 => exact val_c
    refine ⟨rfl, rfl, G, _, _, rfl, S0.sG, cW_call hw (fun v104 hw => ?_) (fun e he => hE e he _ (sameX_of S0.base))⟩
    refine ⟨_, rfl, _, rfl, _, _, _, _, rfl, h_self, T.cl_Settings, T.n_Settings_fmt, (by show 0 < 1000; decide), ?_⟩
    generalize g105 : upd H p_self _ = H106
    obtain ⟨x107, h108⟩ := gen_mut g105
    have h109 : H106 p_self = some (.ins AD.c_Settings dx_self [("fmt", V.ref p_fmt)]) := h108
    have S110 := S0.mut1 x107 (.head _) h109
    refine ⟨_, rfl, _, rfl, _, _, _, _, rfl, h109, T.cl_Settings, T.n_Settings_slots, (by show 1 < 1000; decide), ?_⟩
    generalize g111 : upd H106 p_self _ = H112
    obtain ⟨x113, h114⟩ := gen_mut g111
    have h115 : H112 p_self = some (.ins AD.c_Settings dx_self [("fmt", V.ref p_fmt), ("slots", V.int (slots'))]) := h114
    have S116 := S110.mut1 x113 (.head _) h115
    refine ⟨_, rfl, _, rfl, _, _, _, _, rfl, h115, T.cl_Settings, T.n_Settings_rows, (by show 2 < 1000; decide), ?_⟩
    generalize g117 : upd H112 p_self _ = H118
    obtain ⟨x119, h120⟩ := gen_mut g117
    have h121 : H118 p_self = some (.ins AD.c_Settings dx_self [("fmt", V.ref p_fmt), ("slots", V.int (slots')), ("rows", V.int (rows'))]) := h120
    have S122 := S116.mut1 x119 (.head _) h121
    refine ⟨_, rfl, _, rfl, _, _, _, _, rfl, h121, T.cl_Settings, T.n_Settings_deblock, (by show 3 < 1000; decide), ?_⟩
    generalize g123 : upd H118 p_self _ = H124
    obtain ⟨x125, h126⟩ := gen_mut g123
    have h127 : H124 p_self = some (.ins AD.c_Settings dx_self [("fmt", V.ref p_fmt), ("slots", V.int (slots')), ("rows", V.int (rows')), ("deblock", V.bl (deblock'))]) := h126
    have S128 := S122.mut1 x125 (.head _) h127
    refine ⟨_, rfl, _, rfl, _, _, _, _, rfl, h127, T.cl_Settings, T.n_Settings_offset, (by show 4 < 1000; decide), ?_⟩
    generalize g129 : upd H124 p_self _ = H130
    obtain ⟨x131, h132⟩ := gen_mut g129
    have h133 : H130 p_self = some (.ins AD.c_Settings dx_self [("fmt", V.ref p_fmt), ("slots", V.int (slots')), ("rows", V.int (rows')), ("deblock", V.bl (deblock')), ("offset", V.bl (offset'))]) := h132
    have S134 := S128.mut1 x131 (.head _) h133
    refine ⟨_, rfl, _, rfl, _, _, _, _, rfl, h133, T.cl_Settings, T.n_Settings_layers, (by show 5 < 1000; decide), ?_⟩
    generalize g135 : upd H130 p_self _ = H136
    obtain ⟨x137, h138⟩ := gen_mut g135
    have h139 : H136 p_self = some (.ins AD.c_Settings dx_self [("fmt", V.ref p_fmt), ("slots", V.int (slots')), ("rows", V.int (rows')), ("deblock", V.bl (deblock')), ("offset", V.bl (offset')), ("layers", V.int (layers'))]) := h138
    have S140 := S134.mut1 x137 (.head _) h139
    have hw := cW_ok hw
    exact hK0 _ hw _ (sameX_of S140.base) h139

abbrev N_Format_planes : List Str := ["self"]
theorem sc_Format_planes : FnScope N_Format_planes ["self"] (defScope s_Format_planes) := ⟨rfl, rfl, rfl, by decide +kernel, rfl, by decide +kernel, by decide +kernel⟩
theorem ok_Format_planes (D : PropX K AD.c_Format "Format.planes" "planes" s_Format_planes ["self"] pats_Format_planes) (T : Txt w K mg AD)  : PropY P w K mg base 1 AD.c_Format "planes" (sp_Format_planes K AD) pats_Format_planes := by
  refine D.ok T.cl_Format sc_Format_planes (fun vs H Q E h => ?_) (fun f cdv A_ outer s H vs Q E hr h => ?_)
  · obtain ⟨G, p_self, dx_self, self', rfl, _⟩ := h
    rfl
  · obtain ⟨G, p_self, dx_self, self', rfl, sG, h_p_self, hw⟩ := h
    refine ⟨_, (pss_one (ps_ret (pe_ifExp (pt_cmp (pc_eqI (fldK (K := K) (pv 0)) pe_int)) pe_int pe_int))), ?_⟩
    obtain ⟨KK, EE, hK0, hE, hw⟩ := cW_gen hw
    have S0 := Sep.startG sG
    unfold F_Format_planes at hw
    refine vv_if (vt_cmp (vv_cmp (val_fld (val_var rfl) (S0.bM _ _ h_p_self) T.cl_Format T.n_Format_chroma rfl) val_c (fun Q q => ⟨_, _, rfl, rfl, q⟩))) val_c val_c _ ?_
    have hw := cW_ok hw
    exact hK0 _ hw _ S0.b0

abbrev N_Format_blocks : List Str := ["self"]
theorem sc_Format_blocks : FnScope N_Format_blocks ["self"] (defScope s_Format_blocks) := ⟨rfl, rfl, rfl, by decide +kernel, rfl, by decide +kernel, by decide +kernel⟩
theorem ok_Format_blocks (D : MethX K AD.c_Format "Format.blocks" "blocks" s_Format_blocks ["self"] pats_Format_blocks) (T : Txt w K mg AD)  : MetX P w K mg base 1 AD.c_Format "blocks" (sp_Format_blocks K AD) pats_Format_blocks := by
  refine D.ok T.cl_Format sc_Format_blocks (fun vs H Q E h => ?_) (fun f cdv A_ outer s H vs Q E hr h => ?_)
  · obtain ⟨G, p_self, dx_self, self', rfl, _⟩ := h
    rfl
  · obtain ⟨G, p_self, dx_self, self', rfl, sG, h_p_self, hw⟩ := h
    refine ⟨_, (pss_one (ps_ret (pe_tup (pa_cons (pe_op op_fdivW (pe_op op_sub (pe_op op_add (fldK (K := K) (pv 0)) (C8.pe_gc rfl T.g_BLOCK)) pe_int) (C8.pe_gc rfl T.g_BLOCK)) (pa_cons (pe_op op_fdivW (pe_op op_sub (pe_op op_add (fldK (K := K) (pv 0)) (C8.pe_gc rfl T.g_BLOCK)) pe_int) (C8.pe_gc rfl T.g_BLOCK)) pa_nil))))), ?_⟩
    obtain ⟨KK, EE, hK0, hE, hw⟩ := cW_gen hw
    have S0 := Sep.startG sG
    unfold F_Format_blocks at hw
    refine ⟨_, rfl, _, _, _, _, _, rfl, (S0.bM _ _ h_p_self), T.cl_Format, T.n_Format_width, rfl, _, _, rfl, rfl, _, _, rfl, rfl, _, _, rfl, rfl, (divW_lit (by decide) (by decide)), _, rfl, _, _, _, _, _, rfl, (S0.bM _ _ h_p_self), T.cl_Format, T.n_Format_height, rfl, _, _, rfl, rfl, _, _, rfl, rfl, _, _, rfl, rfl, (divW_lit (by decide) (by decide)), (by show 2 ≤ sizeLine; decide), fun p144 n145 => ?_⟩
    generalize g146 : upd H p144 _ = H147
    obtain ⟨e148, h149⟩ := gen_new n145 g146
    have h150 : H147 p144 = some (.tup [V.int ((((self'.width + 8) - 1) / 8)), V.int ((((self'.height + 8) - 1) / 8))]) := h149
    have fr151 := S0.free n145
    obtain ⟨G153, eG154, hg155, S152⟩ := S0.grow n145 e148 h150 fr151
    have hw := cW_ok hw
    exact hK0 _ hw _ _ _ S152.b0 S152.g0 S152.sG S152.gn (rp_mk2 hg155 (.int _) (.int _))

abbrev N_Format__plane_size : List Str := ["self", "plane", "width", "height"]
theorem sc_Format__plane_size : FnScope N_Format__plane_size ["self", "plane", "width", "height"] (defScope s_Format__plane_size) := ⟨rfl, rfl, rfl, by decide +kernel, rfl, by decide +kernel, by decide +kernel⟩
theorem ok_Format__plane_size (D : MethX K AD.c_Format "Format._plane_size" "_plane_size" s_Format__plane_size ["self", "plane", "width", "height"] pats_Format__plane_size) (T : Txt w K mg AD) (c_Format_planes : PropY P w K mg base 1 AD.c_Format "planes" (sp_Format_planes K AD) pats_Format_planes) : MetX P w K mg base 3 AD.c_Format "_plane_size" (sp_Format__plane_size K AD) pats_Format__plane_size := by
  refine D.ok T.cl_Format sc_Format__plane_size (fun vs H Q E h => ?_) (fun f cdv A_ outer s H vs Q E hr h => ?_)
  · obtain ⟨G, p_self, dx_self, self', plane', width', height', rfl, _⟩ := h
    rfl
  · obtain ⟨G, p_self, dx_self, self', plane', width', height', rfl, sG, h_p_self, hw⟩ := h
    refine ⟨_, (pss_cons (ps_if (pt_not (pt_chain op_le op_lt pe_int (pv 1) (vx_propX c_Format_planes hr (by decide) (pv 0)))) (pss_one (ps_raise rfl (takes_of rfl rfl rfl rfl) (pmk_own PySem.F.excBase_ValueError T.xx_OutOfRange T.xg_OutOfRange T.xk_OutOfRange (raises_own T.xb_OutOfRange T.xt_OutOfRange) rfl))) pss_nil)
      (pss_cons (ps_if (PW.pt (pw_and (pt_cmp (pc_gt (pv 1) pe_int)) (pw_and1 (pt_cmp (pc_eqI (fldK (K := K) (pv 0)) pe_int))))) (pss_one (ps_ret (pe_tup (pa_cons (pe_op op_fdivW (pe_op op_add (pv 2) pe_int) pe_int) (pa_cons (pe_op op_fdivW (pe_op op_add (pv 3) pe_int) pe_int) pa_nil))))) pss_nil)
      (pss_one (ps_ret (pe_tup (pa_cons (pv 2) (pa_cons (pv 3) pa_nil))))))), ?_⟩
    obtain ⟨KK, EE, hK0, hE, hw⟩ := cW_gen hw
    have S0 := Sep.startG sG
    unfold F_Format__plane_size at hw
    refine ⟨_, rfl, _, _, rfl, rfl, _, rfl, ?_⟩
    refine iteD (fun c156 => ?_) (fun c156 => ?_)
    · have hw := cW_pos c156 hw
      refine ⟨_, rfl, _, _, _, rfl, (S0.bM _ _ h_p_self), G, _, _, self', rfl, S0.sG, (hide_nil (S0.bM _ _ h_p_self)), cW_callN hw (fun v157 hw H158 e159 => ?_) trivial⟩
      have S160 := S0.same e159
      refine ⟨_, _, rfl, rfl, _, rfl, ?_⟩
      refine iteN (fun c161 => ?_) (fun c161 => ?_)
      · have hw := cW_neg c161 hw
        exact hE 3 (cW_er hw) _ S160.b0
      · have hw := cW_pos c161 hw
        refine ⟨_, rfl, _, _, rfl, rfl, _, rfl, ?_⟩
        refine iteD (fun c162 => ?_) (fun c162 => ?_)
        · have hw := cW_pos c162 hw
          refine ⟨_, rfl, _, _, _, _, _, rfl, (S160.bM _ _ h_p_self), T.cl_Format, T.n_Format_chroma, rfl, _, _, rfl, rfl, _, rfl, ?_⟩
          refine iteD (fun c163 => ?_) (fun c163 => ?_)
          · have hw := cW_pos c163 hw
            refine ⟨_, rfl, _, _, rfl, rfl, _, _, rfl, rfl, (divW_lit (by decide) (by decide)), _, rfl, _, _, rfl, rfl, _, _, rfl, rfl, (divW_lit (by decide) (by decide)), (by show 2 ≤ sizeLine; decide), fun p164 n165 => ?_⟩
            generalize g166 : upd H158 p164 _ = H167
            obtain ⟨e168, h169⟩ := gen_new n165 g166
            have h170 : H167 p164 = some (.tup [V.int (((width' + 1) / 2)), V.int (((height' + 1) / 2))]) := h169
            have fr171 := S160.free n165
            obtain ⟨G173, eG174, hg175, S172⟩ := S160.grow n165 e168 h170 fr171
            have hw := cW_ok hw
            exact hK0 _ hw _ _ _ S172.b0 S172.g0 S172.sG S172.gn (rp_mk2 hg175 (.int _) (.int _))
          · have hw := cW_neg c163 hw
            refine ⟨_, rfl, _, rfl, (by show 2 ≤ sizeLine; decide), fun p176 n177 => ?_⟩
            generalize g178 : upd H158 p176 _ = H179
            obtain ⟨e180, h181⟩ := gen_new n177 g178
            have h182 : H179 p176 = some (.tup [V.int (width'), V.int (height')]) := h181
            have fr183 := S160.free n177
            obtain ⟨G185, eG186, hg187, S184⟩ := S160.grow n177 e180 h182 fr183
            have hw := cW_ok hw
            exact hK0 _ hw _ _ _ S184.b0 S184.g0 S184.sG S184.gn (rp_mk2 hg187 (.int _) (.int _))
        · have hw := cW_neg c162 hw
          refine iteF ?_
          refine ⟨_, rfl, _, rfl, (by show 2 ≤ sizeLine; decide), fun p188 n189 => ?_⟩
          generalize g190 : upd H158 p188 _ = H191
          obtain ⟨e192, h193⟩ := gen_new n189 g190
          have h194 : H191 p188 = some (.tup [V.int (width'), V.int (height')]) := h193
          have fr195 := S160.free n189
          obtain ⟨G197, eG198, hg199, S196⟩ := S160.grow n189 e192 h194 fr195
          have hw := cW_ok hw
          exact hK0 _ hw _ _ _ S196.b0 S196.g0 S196.sG S196.gn (rp_mk2 hg199 (.int _) (.int _))
    · have hw := cW_neg c156 hw
      refine ⟨_, rfl, ?_⟩
      refine iteT ?_
      exact hE 3 (cW_er hw) _ S0.b0

abbrev N_Format_coded_size : List Str := ["self", "plane", "columns", "rows"]
theorem sc_Format_coded_size : FnScope N_Format_coded_size ["self", "plane"] (defScope s_Format_coded_size) := ⟨rfl, rfl, rfl, by decide +kernel, rfl, by decide +kernel, by decide +kernel⟩
theorem ok_Format_coded_size (D : MethX K AD.c_Format "Format.coded_size" "coded_size" s_Format_coded_size ["self", "plane"] pats_Format_coded_size) (T : Txt w K mg AD) (c_Format_blocks : MetX P w K mg base 1 AD.c_Format "blocks" (sp_Format_blocks K AD) pats_Format_blocks) (c_Format__plane_size : MetX P w K mg base 3 AD.c_Format "_plane_size" (sp_Format__plane_size K AD) pats_Format__plane_size) : MetX P w K mg base 4 AD.c_Format "coded_size" (sp_Format_coded_size K AD) pats_Format_coded_size := by
  refine D.ok T.cl_Format sc_Format_coded_size (fun vs H Q E h => ?_) (fun f cdv A_ outer s H vs Q E hr h => ?_)
  · obtain ⟨G, p_self, dx_self, self', plane', rfl, _⟩ := h
    rfl
  · obtain ⟨G, p_self, dx_self, self', plane', rfl, sG, h_p_self, hw⟩ := h
    refine ⟨_, (pss_cons (ps_asg (vx_methX0 c_Format_blocks pat_Format_blocks_0 (.head _) hr (by decide) (takes_of rfl rfl rfl rfl) (pv 0)) (pg_tupK (K := K) (n := 2) (pgs_cons (pg_name (i := 2) sc_Format_coded_size.nd rfl (Or.inl rfl)) (pgs_cons (pg_name (i := 3) sc_Format_coded_size.nd rfl (Or.inl rfl)) pgs_nil))))
      (pss_one (ps_ret (vx_methX c_Format__plane_size pat_Format__plane_size_0 (.head _) hr (by decide) (takes_of rfl rfl rfl rfl) (pv 0) (pa_cons (pv 1) (pa_cons (pe_op op_mul (pv 2) (C8.pe_gc rfl T.g_BLOCK)) (pa_cons (pe_op op_mul (pv 3) (C8.pe_gc rfl T.g_BLOCK)) pa_nil))) pk_nil)))), ?_⟩
    obtain ⟨KK, EE, hK0, hE, hw⟩ := cW_gen hw
    have S0 := Sep.startG sG
    unfold F_Format_coded_size at hw
    refine ⟨_, rfl, _, _, _, rfl, (S0.bM _ _ h_p_self), rfl, rfl, rfl, G, _, _, self', rfl, S0.sG, (hide_nil (S0.bM _ _ h_p_self)), cW_call hw (fun v200 hw v203 H201 G204 e202 eG205 sG206 hn207 r208 => ?_) (fun e he H2 e2 => hE e he H2 (Same.trans S0.b0 e2))⟩
    have S209 := S0.step e202 eG205 sG206 hn207
    obtain ⟨a210, v212, v213, rfl, h211, r214, r215⟩ := rp_tup2 r208
    obtain rfl := rp_int r214
    obtain rfl := rp_int r215
    refine ⟨_, _, rfl, (SqT.of (S209.sG _ _ h211)), rfl, _, _, rfl, _, _, rfl, rfl, _, rfl, _, _, _, rfl, (S209.bM _ _ h_p_self), rfl, _, rfl, _, rfl, _, _, rfl, rfl, (.inr ⟨by decide, by decide⟩), _, rfl, _, _, rfl, rfl, (.inr ⟨by decide, by decide⟩), rfl, rfl, G204, _, _, self', _, _, _, rfl, S209.sG, (hide_nil (S209.bM _ _ h_p_self)), cW_call hw (fun v216 hw v219 H217 G220 e218 eG221 sG222 hn223 r224 => ?_) (fun e he H2 e2 => hE e he H2 (Same.trans S209.b0 e2))⟩
    have S225 := S209.step e218 eG221 sG222 hn223
    obtain ⟨a226, v228, v229, rfl, h227, r230, r231⟩ := rp_tup2 r224
    obtain rfl := rp_int r230
    obtain rfl := rp_int r231
    have hw := cW_ok hw
    exact hK0 _ hw _ _ _ S225.b0 S225.g0 S225.sG S225.gn (rp_mk2 h227 (.int _) (.int _))

abbrev N__law_middle : List Str := ["fmt", "planes", "plane", "size", "j"]
theorem sc__law_middle : FnScope N__law_middle ["fmt"] (defScope s__law_middle) := ⟨rfl, rfl, rfl, by decide +kernel, rfl, by decide +kernel, by decide +kernel⟩
theorem ok__law_middle (D : DefX K mg "_law_middle" s__law_middle ["fmt"] pats__law_middle) (T : Txt w K mg AD) (c_Format_coded_size : MetX P w K mg base 4 AD.c_Format "coded_size" (sp_Format_coded_size K AD) pats_Format_coded_size) (c_Format_planes : PropY P w K mg base 1 AD.c_Format "planes" (sp_Format_planes K AD) pats_Format_planes) : CalX P w K mg base 5 "_law_middle" (sp__law_middle K AD) pats__law_middle := by
  refine D.ok sc__law_middle (fun vs H Q E h => ?_) (fun f cdv A_ outer s H vs Q E hr h => ?_)
  · obtain ⟨G, p_fmt, dx_fmt, fmt', rfl, _⟩ := h
    rfl
  · obtain ⟨G, p_fmt, dx_fmt, fmt', rfl, sG, h_p_fmt, hw⟩ := h
    refine ⟨_, (pss_cons (ps_set (i := 1) sc__law_middle.nd rfl (Or.inl rfl) (pe_lst pa_nil))
      (pss_cons (ps_for (passes_of rfl) rfl (pi_range1 rfl T.b_range (pa_cons (vx_propX c_Format_planes hr (by decide) (pv 0)) pa_nil)) (pg_name (i := 2) sc__law_middle.nd rfl (Or.inl rfl)) (pss_cons (ps_set (i := 3) sc__law_middle.nd rfl (Or.inr rfl) (vx_methX c_Format_coded_size pat_Format_coded_size_0 (.head _) hr (by decide) (takes_of rfl rfl rfl rfl) (pv 0) (pa_cons (pv 2) pa_nil) pk_nil))
      (pss_one (ps_expr (pe_bm PySem.F.plainAttrs_list PySem.F.slot_list_append PySem.F.type_list_append mt_append (pv 1) (pa_cons (pe_lc (own := [("j", 4)]) (g := gName 4) (by rfl) sc__law_middle.nd (pi_range1 rfl T.b_range (pa_cons (pe_ix (ix_tupK (K := K)) (pv 3) pe_int (fun _ _ => rfl)) pa_nil)) (blkOk_by (own := [("j", 4)]) (N := N__law_middle) (sc := defScope s__law_middle) (by decide +kernel)) (fun _ _ _ _ _ => (pg_name (i := 4) sc__law_middle.nd rfl (Or.inl rfl))) (fun _ _ _ _ _ => pts_nil) (fun _ _ _ _ _ => (pe_op op_rep (pe_lst (pa_cons (pe_op op_shlW pe_int (pe_op op_sub (fldK (K := K) (pv 0)) pe_int)) pa_nil)) (pe_ix (ix_tupK (K := K)) (pv 3) pe_int (fun _ _ => rfl))))) pa_nil))))))
      (pss_one (ps_ret (pv 1))))), ?_⟩
    obtain ⟨KK, EE, hK0, hE, hw⟩ := cW_gen hw
    have S0 := Sep.startG sG
    unfold F__law_middle at hw
    refine ⟨(by show 0 ≤ sizeLine; decide), fun p232 n233 => ?_⟩
    generalize g234 : upd H p232 _ = H235
    obtain ⟨e236, h237⟩ := gen_new n233 g234
    have h238 : H235 p232 = some (.lst ([])) := h237
    have fr239 := S0.free n233
    have S240 := S0.new n233 e236 h238 fr239
    have d241 : RpAll G ([]) ((([] : (List (List (List Int)))) : (List (List (List Int)))).map (encL (encL PyData.int))) := RpAll.nil
    refine ⟨_, rfl, _, _, _, rfl, (S240.bM _ _ h_p_fmt), G, _, _, fmt', rfl, S240.sG, (hide_nil (S240.bM _ _ h_p_fmt)), cW_callN hw (fun v242 hw H243 e244 => ?_) trivial⟩
    have S245 := S240.same e244
    obtain ⟨g246, hw⟩ := cW_grd hw
    obtain ⟨K248, hK249, hw⟩ := cW_push hw
    refine ⟨_, rfl, g246.1, g246.2, for_range (lo := 0) (n := Int.toNat (v242)) (fun i σ H' => ∃ (planes_250 : (List (List (List Int)))) (vs251 : List V) (u252 : Option V) (u253 : Option V) (G' : Hp), σ = [some (V.ref p_fmt), some (V.ref p232), u252, u253, none] ∧ Same G G' ∧ Sep [] H G G' H' [p232] ∧ H' p232 = some (.lst (vs251)) ∧ RpAll G' (vs251) ((planes_250 : (List (List (List Int)))).map (encL (encL PyData.int))) ∧ cW (forS (List.drop i (rng (0) (Int.toNat (v242)))) planes_250 (fun s x => F__law_middle_b1 (fmt') s x)) K248 EE) ?_ ?_ ?_⟩
    · have h254 := (e244 _ _ h238)
      exact ⟨(([] : (List (List (List Int))))), _, _, _, _, rfl, (Same.refl _), S245, h254, d241, hw⟩
    · intro i σ H255 hi hw
      obtain ⟨planes_250, vs251, u252, u253, G259, rfl, eG260, S256, h257, d258, hw⟩ := hw
      have hw := cW_forS (rng_get hi) hw
      generalize (0 + (i : Int)) = x261 at hw ⊢
      have hw : cW (F__law_middle_b1 (fmt') (planes_250) (x261)) _ EE := hw
      unfold F__law_middle_b1 at hw
      obtain ⟨K263, hK264, hw⟩ := cW_name hw
      refine ⟨_, rfl, _, _, _, rfl, (S256.bM _ _ h_p_fmt), rfl, _, rfl, rfl, rfl, G259, _, _, fmt', _, rfl, S256.sG, (hide_nil (S256.bM _ _ h_p_fmt)), cW_call hw (fun v266 hw v269 H267 G270 e268 eG271 sG272 hn273 r274 => ?_) (fun e he H2 e2 => hE e he H2 (Same.trans S256.b0 e2))⟩
      have S275 := S256.step e268 eG271 sG272 hn273
      obtain ⟨a276, v278, v279, rfl, h277, r280, r281⟩ := rp_tup2 r274
      obtain rfl := rp_int r280
      obtain rfl := rp_int r281
      have h282 := (e268 _ _ h257)
      obtain ⟨g283, hw⟩ := cW_grd hw
      obtain ⟨K287, hK288, hw⟩ := cW_push hw
      refine ⟨_, rfl, (.inl ⟨rfl, _, SqL.of h282⟩), _, rfl, _, _, _, _, rfl, rfl, (SqT.of (S275.sG _ _ h277)), rfl, _, rfl, g283.1, g283.2, fun D289 n290 => lc_range (lo := 0) (n := Int.toNat (v266.2)) (fun i H' => ∃ (G' : Hp) (acc292 : (List (List Int))) (vs293 : List V), Same G270 G' ∧ Sep [] H G G' H' [D289, p232] ∧ H' p232 = some (.lst (vs251)) ∧ H' D289 = some (.lst vs293) ∧ RpAll G' vs293 ((acc292 : (List (List Int))).map (encL PyData.int)) ∧ Same H267 H' ∧ cW (mapA (List.drop i (rng (0) (Int.toNat (v266.2)))) acc292 (fun x => noEr (F__law_middle_c2 (fmt') (v266) x))) K287 EE) ?_ ?_ ?_⟩
      · generalize g294 : upd H267 D289 _ = H295
        obtain ⟨e296, h297⟩ := gen_new n290 g294
        have fr298 := S275.free n290
        have S299 := S275.new n290 e296 h297 fr298
        have h300 := (e296 _ _ h282)
        exact ⟨_, [], [], Same.refl _, S299, h300, h297, RpAll.nil, e296, hw⟩
      · intro i H301 hi hw
        obtain ⟨G304, acc306, vs307, eG305, S302, h313, h303, d308, eo312, hw⟩ := hw
        obtain ⟨z314, hw⟩ := cW_mapA (rng_get hi) hw
        generalize (0 + (i : Int)) = x315 at hw ⊢
        have hw := cW_noEr hw
        have hw : cW (F__law_middle_c2 (fmt') (v266) (x315)) _ (fun _ => False) := hw
        unfold F__law_middle_c2 at hw
        refine ⟨rfl, ?_⟩
        refine tyes_go ?_
        obtain ⟨g317, hw⟩ := cW_grd hw
        refine ⟨_, rfl, _, _, _, _, _, rfl, (S302.bM _ _ h_p_fmt), T.cl_Format, T.n_Format_depth, rfl, _, _, rfl, rfl, _, _, rfl, rfl, (shl_side g317.1 g317.2.1 g317.2.2.1 g317.2.2.2), (by show 1 ≤ sizeLine; decide), fun p318 n319 => ?_⟩
        generalize g320 : upd H301 p318 _ = H321
        obtain ⟨e322, h323⟩ := gen_new n319 g320
        have h324 : H321 p318 = some (.lst (([(1 * 2 ^ Int.toNat ((fmt'.depth - 1)))] : (List Int)).map V.int)) := h323
        have fr325 := S302.free n319
        have S326 := S302.new n319 e322 h324 fr325
        obtain ⟨g327, hw⟩ := cW_grd hw
        refine ⟨_, rfl, _, _, _, _, rfl, rfl, (SqT.of (S326.sG _ _ (eG305 _ _ h277))), rfl, _, _, _, rfl, rfl, h324, g327.1, g327.2.1, (rep_lenM g327.2.2), fun p328 n329 => ?_⟩
        generalize g330 : upd H321 p328 _ = H331
        obtain ⟨e332, h333⟩ := gen_new n329 g330
        have h334 : H331 p328 = some (.lst ((repL ([(1 * 2 ^ Int.toNat ((fmt'.depth - 1)))]) (v266.1) : (List Int)).map V.int)) := rep_map h333
        have fr335 := S326.free n329
        have S336 := S326.new n329 e332 h334 fr335
        obtain ⟨G337, eG338, hg339, S340⟩ := Sep.freeze (O' := [p318, D289, p232]) S336 (.head _) h334 fr335 ((all_cons ⟨(.tail _ (.head _)), (ne_of_none h324 n329)⟩ (all_cons ⟨(.tail _ (.tail _ (.head _))), (ne_of_none (e322 _ _ h303) n329)⟩ (all_cons ⟨(.tail _ (.tail _ (.tail _ (.head _)))), (ne_of_none (e322 _ _ h313) n329)⟩ all_nil))))
        have h341 := (e332 _ _ (e322 _ _ h303))
        refine ⟨_, h341, (app_len (RpAll.mono eG338 d308) z314), ?_⟩
        generalize g342 : upd H331 D289 _ = H343
        obtain ⟨x344, h345⟩ := gen_mut g342
        have S346 := S340.mut1 x344 (.tail _ (.head _)) h345
        have hw := cW_ok hw
        have h347 := (x344 _ _ (e332 _ _ (e322 _ _ h313)) (ne_of_none h282 n290))
        exact ⟨_, (acc306 ++ [repL ([(1 * 2 ^ Int.toNat ((fmt'.depth - 1)))]) (v266.1)]), _, (Same.trans eG305 eG338), (S346.sub (all_cons (.tail _ (.head _)) (all_cons (.tail _ (.tail _ (.head _))) all_nil))), h347, h345, (app_map (RpAll.mono eG338 d308) (RpAll.one (rp_mk_ints hg339))), (same_mut (Same.trans (Same.trans eo312 e322) e332) x344 n290), hw⟩
      intro H348 hw
      obtain ⟨G351, acc353, vs354, eG352, S349, h360, h350, d355, eo359, hw⟩ := hw
      have hw := hK288 _ (cW_mapA0 (rng_len _ _).symm hw)
      have fr361 := S275.free n290
      obtain ⟨g362, hw⟩ := cW_grd hw
      obtain ⟨G363, eG364, hg365, S366⟩ := Sep.freeze (O' := [p232]) S349 (.head _) h350 fr361 ((all_cons ⟨(.tail _ (.head _)), (ne_of_none h282 n290)⟩ all_nil))
      refine ⟨_, _, _, rfl, rfl, h360, (app_len (RpAll.mono eG364 (RpAll.mono eG352 (RpAll.mono eG271 d258))) g362), ?_⟩
      generalize g367 : upd H348 p232 _ = H368
      obtain ⟨x369, h370⟩ := gen_mut g367
      have h371 : H368 p232 = some (.lst (vs251 ++ [V.ref D289])) := h370
      have S372 := S366.mut1 x369 (.head _) h371
      have d373 : RpAll G363 (vs251 ++ [V.ref D289]) (((planes_250) ++ [acc353] : (List (List (List Int)))).map (encL (encL PyData.int))) := app_map (RpAll.mono eG364 (RpAll.mono eG352 (RpAll.mono eG271 d258))) (RpAll.one (rp_mk_list hg365 (RpAll.mono eG364 d355)))
      have hw := cW_bnd hw
      have hw := cW_ok hw
      have hw := hK264 _ hw
      exact ⟨((planes_250) ++ [acc353]), _, _, _, _, rfl, (Same.trans (Same.trans (Same.trans eG260 eG271) eG352) eG364), S372, h371, d373, hw⟩
    · intro σ H375 hw
      obtain ⟨planes_250, vs251, u252, u253, G379, rfl, eG380, S376, h377, d378, hw⟩ := hw
      have hw := hK249 _ (cW_forS0 (rng_len _ _).symm hw)
      have hw : cW (F__law_middle_r1  (planes_250)) _ EE := hw
      unfold F__law_middle_r1 at hw
      refine ⟨_, rfl, ?_⟩
      obtain ⟨G382, eG383, hg384, S385⟩ := Sep.freeze (O' := []) S376 (.head _) h377 fr239 (all_nil)
      have hw := cW_ok hw
      exact hK0 _ hw _ _ _ S385.b0 S385.g0 S385.sG S385.gn (rp_mk_list hg384 (RpAll.mono eG383 d378))

abbrev N__check_shape : List Str := ["planes", "sizes", "plane", "width", "height", "row"]
theorem sc__check_shape : FnScope N__check_shape ["planes", "sizes"] (defScope s__check_shape) := ⟨rfl, rfl, rfl, by decide +kernel, rfl, by decide +kernel, by decide +kernel⟩
theorem ok__check_shape (D : DefX K mg "_check_shape" s__check_shape ["planes", "sizes"] pats__check_shape) (T : Txt w K mg AD)  : CalX P w K mg base 1 "_check_shape" (sp__check_shape K AD) pats__check_shape := by
  refine D.ok sc__check_shape (fun vs H Q E h => ?_) (fun f cdv A_ outer s H vs Q E hr h => ?_)
  · obtain ⟨G, v_planes, planes', v_sizes, sizes', rfl, _⟩ := h
    rfl
  · obtain ⟨G, v_planes, planes', v_sizes, sizes', rfl, sG, r_planes, r_sizes, hw⟩ := h
    refine ⟨_, (pss_cons (ps_if (pt_cmp (pc_neI (pe_callB (call_lenLK (K := K)) (by rfl) T.b_len (by decide +kernel) (pa_cons (pv 0) pa_nil)) (pe_callB (call_lenLK (K := K)) (by rfl) T.b_len (by decide +kernel) (pa_cons (pv 1) pa_nil)))) (pss_one (ps_raise rfl (takes_of rfl rfl rfl rfl) (pmk_own PySem.F.excBase_ValueError T.xx_BadFrame T.xg_BadFrame T.xk_BadFrame (raises_own T.xb_BadFrame T.xt_BadFrame) rfl))) pss_nil)
      (pss_one (ps_for (passes_of rfl) rfl (pi_zipK (K := K) rfl T.b_zip (pa_cons (pv 0) (pa_cons (pv 1) pa_nil))) (pg_tupK (K := K) (n := 2) (pgs_cons (pg_name (i := 2) sc__check_shape.nd rfl (Or.inl rfl)) (pgs_cons (pg_tupK (K := K) (n := 2) (pgs_cons (pg_name (i := 3) sc__check_shape.nd rfl (Or.inr rfl)) (pgs_cons (pg_name (i := 4) sc__check_shape.nd rfl (Or.inl rfl)) pgs_nil))) pgs_nil))) (pss_cons (ps_if (pt_cmp (pc_neI (pe_callB (call_lenLK (K := K)) (by rfl) T.b_len (by decide +kernel) (pa_cons (pv 2) pa_nil)) (pv 4))) (pss_one (ps_raise rfl (takes_of rfl rfl rfl rfl) (pmk_own PySem.F.excBase_ValueError T.xx_BadFrame T.xg_BadFrame T.xk_BadFrame (raises_own T.xb_BadFrame T.xt_BadFrame) rfl))) pss_nil)
      (pss_one (ps_if (pt_val (pe_callB (cr_anyK (K := K) rfl) (by rfl) T.b_any (by decide +kernel) (pa_cons (pe_lc (own := [("row", 5)]) (g := gName 5) (by rfl) sc__check_shape.nd (pi_listK (K := K) (pv 2)) (blkOk_by (own := [("row", 5)]) (N := N__check_shape) (sc := defScope s__check_shape) (by decide +kernel)) (fun _ _ _ _ _ => (pg_name (i := 5) sc__check_shape.nd rfl (Or.inl rfl))) (fun _ _ _ _ _ => pts_nil) (fun _ _ _ _ _ => (pe_cmp (pc_neI (pe_callB (call_lenLiK (K := K)) (by rfl) T.b_len (by decide +kernel) (pa_cons (pv 5) pa_nil)) (pv 3))))) pa_nil))) (pss_one (ps_raise rfl (takes_of rfl rfl rfl rfl) (pmk_own PySem.F.excBase_ValueError T.xx_BadFrame T.xg_BadFrame T.xk_BadFrame (raises_own T.xb_BadFrame T.xt_BadFrame) rfl))) pss_nil)))))), ?_⟩
    obtain ⟨KK, EE, hK0, hE, hw⟩ := cW_gen hw
    have S0 := Sep.startG sG
    unfold F__check_shape at hw
    obtain ⟨a386, vs387, rfl, h388, d389⟩ := rp_list r_planes
    obtain ⟨a390, vs391, rfl, h392, d393⟩ := rp_list r_sizes
    refine ⟨_, rfl, _, _, _, rfl, (SqL.of (S0.bM _ _ h388)), (by rw [d389.len, List.length_map]), _, rfl, _, _, _, rfl, (SqL.of (S0.bM _ _ h392)), (by rw [d393.len, List.length_map]), _, _, rfl, rfl, _, rfl, ?_⟩
    refine iteN (fun c394 => ?_) (fun c394 => ?_)
    · have hw := cW_neg c394 hw
      exact hE 2 (cW_er hw) _ S0.b0
    · have hw := cW_pos c394 hw
      obtain ⟨K395, hK396, hw⟩ := cW_push hw
      refine ⟨_, rfl, _, rfl, _, _, _, _, rfl, .inl ⟨(SqL.of (S0.bM _ _ h388)), (SqL.of (S0.bM _ _ h392)), for_zipM (K := K) (a := a386) (b := a390) (xs := vs387) (ys := vs391) (min ((planes' : (List (List (List Int)))).length) ((sizes' : (List (Int × Int))).length)) (zipM_n (by rw [d389.len, List.length_map]) (by rw [d393.len, List.length_map])) (fun i σ H' => ∃ (u397 : Option V) (u398 : Option V) (u399 : Option V) (G' : Hp), σ = [some (V.ref a386), some (V.ref a390), u397, u398, u399, none] ∧ Same G G' ∧ Sep [] H G G' H' [] ∧ cW (forS (List.drop i (List.zip (planes') (sizes'))) () (fun s x => F__check_shape_b1   x)) K395 EE) ?_ ?_ ?_ ?_⟩⟩
      · exact ⟨_, _, _, _, rfl, (Same.refl _), S0, hw⟩
      · intro i σ H400 hw
        obtain ⟨u397, u398, u399, G402, rfl, eG403, S401, hw⟩ := hw
        exact ⟨(SqL.of (S401.bM _ _ h388)), (SqL.of (S401.bM _ _ h392))⟩
      · intro i x y T405 σ H404 hj hj2 n406 hw
        obtain ⟨u397, u398, u399, G408, rfl, eG409, S407, hw⟩ := hw
        obtain ⟨x410, hx411, r412⟩ := RpAll.get d389 hj
        obtain ⟨a413, vs414, rfl, h415, d416⟩ := rp_list r412
        obtain ⟨x417, hx418, r419⟩ := RpAll.get d393 hj2
        obtain ⟨a420, v422, v423, rfl, h421, r424, r425⟩ := rp_tup2 r419
        obtain rfl := rp_int r424
        obtain rfl := rp_int r425
        generalize g426 : upd H404 T405 _ = H427
        obtain ⟨e428, h429⟩ := gen_new n406 g426
        have h430 : H427 T405 = some (.tup [V.ref a413, V.ref a420]) := h429
        have fr431 := S407.free n406
        obtain ⟨G433, eG434, hg435, S432⟩ := S407.grow n406 e428 h430 fr431
        have hw := cW_forS (zip_get hx411 hx418) hw
        have hw : cW (F__check_shape_b1   ((x410, x417))) _ EE := hw
        unfold F__check_shape_b1 at hw
        obtain ⟨K436, hK437, hw⟩ := cW_name hw
        refine ⟨_, _, rfl, (SqT.of (S432.sG _ _ hg435)), rfl, _, _, rfl, _, _, rfl, _, _, rfl, (SqT.of (S432.bM _ _ h421)), rfl, _, _, rfl, _, _, rfl, rfl, rfl, _, rfl, _, _, _, rfl, (SqL.of (S432.bM _ _ h415)), (by rw [d416.len, List.length_map]), _, rfl, _, _, rfl, rfl, _, rfl, ?_⟩
        refine iteN (fun c439 => ?_) (fun c439 => ?_)
        · have hw := cW_neg c439 hw
          exact hE 2 (cW_er hw) _ S432.b0
        · have hw := cW_pos c439 hw
          obtain ⟨K442, hK443, hw⟩ := cW_push hw
          refine ⟨_, rfl, _, rfl, ⟨_, (SqL.of (S432.bM _ _ h415))⟩, fun D444 n445 => lc_list (K := K) (a := a413) (xs := vs414) (fun i H' => ∃ (G' : Hp) (acc447 : (List Bool)), Same G433 G' ∧ Sep [] H G G' H' [D444] ∧ H' D444 = some (.lst ((acc447 : (List Bool)).map V.bl)) ∧ Same H427 H' ∧ cW (mapA (List.drop i (x410)) acc447 (fun x => noEr (F__check_shape_c2 (x417.1) x))) K442 EE) ?_ ?_ ?_ ?_⟩
          · generalize g449 : upd H427 D444 _ = H450
            obtain ⟨e451, h452⟩ := gen_new n445 g449
            have fr453 := S432.free n445
            have S454 := S432.new n445 e451 h452 fr453
            exact ⟨_, [], Same.refl _, S454, h452, e451, hw⟩
          · intro i H455 _ hw
            obtain ⟨G458, acc460, eG459, S456, h457, eo466, hw⟩ := hw
            exact (SqL.of (S456.bM _ _ h415))
          · intro i x H467 hj hw
            obtain ⟨G470, acc472, eG471, S468, h469, eo478, hw⟩ := hw
            obtain ⟨x479, hx, r480⟩ := RpAll.get d416 hj
            obtain ⟨a481, rfl, h482⟩ := rp_ints r480
            obtain ⟨z483, hw⟩ := cW_mapA hx hw
            have hw := cW_noEr hw
            have hw : cW (F__check_shape_c2 (x417.1) (x479)) _ (fun _ => False) := hw
            unfold F__check_shape_c2 at hw
            refine ⟨rfl, ?_⟩
            refine tyes_go ?_
            refine ⟨_, rfl, _, _, rfl, (SqL.of (S468.bM _ _ h482)), _, rfl, _, _, rfl, rfl, _, h469, (app_lenM z483), ?_⟩
            generalize g485 : upd H467 D444 _ = H486
            obtain ⟨x487, h488⟩ := gen_mut g485
            have S489 := S468.mut1 x487 (.head _) h488
            have hw := cW_ok hw
            exact ⟨_, (acc472 ++ [(!decide (((((x479) : (List Int)).length : Int) : Int) = x417.1))]), eG471, S489, (snoc_map h488), (same_mut eo478 x487 n445), hw⟩
          intro H490 hw
          obtain ⟨G493, acc495, eG494, S491, h492, eo501, hw⟩ := hw
          have hw := hK443 _ (cW_mapA0 (by rw [d416.len, List.length_map]) hw)
          have fr502 := S432.free n445
          refine ⟨_, _, rfl, (SqL.of h492), _, rfl, ?_⟩
          refine iteB (fun c503 => ?_) (fun c503 => ?_)
          · have hw := cW_pos c503 hw
            exact hE 2 (cW_er hw) _ S491.b0
          · have hw := cW_negB c503 hw
            have hw := cW_ok hw
            have hw := hK437 _ hw
            exact ⟨_, _, _, _, rfl, (Same.trans (Same.trans eG409 eG434) eG494), (S491.sub all_nil), hw⟩
      · intro σ H504 hw
        obtain ⟨u397, u398, u399, G506, rfl, eG507, S505, hw⟩ := hw
        have hw := hK396 _ (cW_forS0 zipM_len hw)
        have hw : cW (F__check_shape_r1  ) _ EE := hw
        unfold F__check_shape_r1 at hw
        have hw := cW_ok hw
        exact hK0 _ hw _ S505.b0

abbrev N_Format_size : List Str := ["self", "plane"]
theorem sc_Format_size : FnScope N_Format_size ["self", "plane"] (defScope s_Format_size) := ⟨rfl, rfl, rfl, by decide +kernel, rfl, by decide +kernel, by decide +kernel⟩
theorem ok_Format_size (D : MethX K AD.c_Format "Format.size" "size" s_Format_size ["self", "plane"] pats_Format_size) (T : Txt w K mg AD) (c_Format__plane_size : MetX P w K mg base 3 AD.c_Format "_plane_size" (sp_Format__plane_size K AD) pats_Format__plane_size) : MetX P w K mg base 4 AD.c_Format "size" (sp_Format_size K AD) pats_Format_size := by
  refine D.ok T.cl_Format sc_Format_size (fun vs H Q E h => ?_) (fun f cdv A_ outer s H vs Q E hr h => ?_)
  · obtain ⟨G, p_self, dx_self, self', plane', rfl, _⟩ := h
    rfl
  · obtain ⟨G, p_self, dx_self, self', plane', rfl, sG, h_p_self, hw⟩ := h
    refine ⟨_, (pss_one (ps_ret (vx_methX c_Format__plane_size pat_Format__plane_size_0 (.head _) hr (by decide) (takes_of rfl rfl rfl rfl) (pv 0) (pa_cons (pv 1) (pa_cons (fldK (K := K) (pv 0)) (pa_cons (fldK (K := K) (pv 0)) pa_nil))) pk_nil))), ?_⟩
    obtain ⟨KK, EE, hK0, hE, hw⟩ := cW_gen hw
    have S0 := Sep.startG sG
    unfold F_Format_size at hw
    refine ⟨_, rfl, _, _, _, rfl, (S0.bM _ _ h_p_self), rfl, _, rfl, _, rfl, _, _, _, _, _, rfl, (S0.bM _ _ h_p_self), T.cl_Format, T.n_Format_width, rfl, _, rfl, _, _, _, _, _, rfl, (S0.bM _ _ h_p_self), T.cl_Format, T.n_Format_height, rfl, rfl, rfl, G, _, _, self', _, _, _, rfl, S0.sG, (hide_nil (S0.bM _ _ h_p_self)), cW_call hw (fun v508 hw v511 H509 G512 e510 eG513 sG514 hn515 r516 => ?_) (fun e he H2 e2 => hE e he H2 (Same.trans S0.b0 e2))⟩
    have S517 := S0.step e510 eG513 sG514 hn515
    obtain ⟨a518, v520, v521, rfl, h519, r522, r523⟩ := rp_tup2 r516
    obtain rfl := rp_int r522
    obtain rfl := rp_int r523
    have hw := cW_ok hw
    exact hK0 _ hw _ _ _ S517.b0 S517.g0 S517.sG S517.gn (rp_mk2 h519 (.int _) (.int _))

abbrev N__sizes : List Str := ["fmt", "plane"]
theorem sc__sizes : FnScope N__sizes ["fmt"] (defScope s__sizes) := ⟨rfl, rfl, rfl, by decide +kernel, rfl, by decide +kernel, by decide +kernel⟩
theorem ok__sizes (D : DefX K mg "_sizes" s__sizes ["fmt"] pats__sizes) (T : Txt w K mg AD) (c_Format_planes : PropY P w K mg base 1 AD.c_Format "planes" (sp_Format_planes K AD) pats_Format_planes) (c_Format_size : MetX P w K mg base 4 AD.c_Format "size" (sp_Format_size K AD) pats_Format_size) : CalX P w K mg base 5 "_sizes" (sp__sizes K AD) pats__sizes := by
  refine D.ok sc__sizes (fun vs H Q E h => ?_) (fun f cdv A_ outer s H vs Q E hr h => ?_)
  · obtain ⟨G, p_fmt, dx_fmt, fmt', rfl, _⟩ := h
    rfl
  · obtain ⟨G, p_fmt, dx_fmt, fmt', rfl, sG, h_p_fmt, hw⟩ := h
    refine ⟨_, (pss_one (ps_ret (pe_lc (own := [("plane", 1)]) (g := gName 1) (by rfl) sc__sizes.nd (pi_range1 rfl T.b_range (pa_cons (vx_propX c_Format_planes hr (by decide) (pv 0)) pa_nil)) (blkOk_by (own := [("plane", 1)]) (N := N__sizes) (sc := defScope s__sizes) (by decide +kernel)) (fun _ _ _ _ _ => (pg_name (i := 1) sc__sizes.nd rfl (Or.inl rfl))) (fun _ _ _ _ _ => pts_nil) (fun _ _ _ _ _ => (vx_methX c_Format_size pat_Format_size_0 (.head _) hr (by decide) takes0 (pv 0) (pa_cons (pv 1) pa_nil) pk_nil))))), ?_⟩
    obtain ⟨KK, EE, hK0, hE, hw⟩ := cW_gen hw
    have S0 := Sep.startG sG
    unfold F__sizes at hw
    refine ⟨_, rfl, _, _, _, rfl, (S0.bM _ _ h_p_fmt), G, _, _, fmt', rfl, S0.sG, (hide_nil (S0.bM _ _ h_p_fmt)), cW_callN hw (fun v524 hw H525 e526 => ?_) trivial⟩
    have S527 := S0.same e526
    obtain ⟨g528, hw⟩ := cW_grd hw
    obtain ⟨K531, hK532, hw⟩ := cW_push hw
    refine ⟨_, rfl, g528.1, g528.2, fun D533 n534 => lc_range (lo := 0) (n := Int.toNat (v524)) (fun i H' => ∃ (G' : Hp) (acc536 : (List (Int × Int))) (vs537 : List V), Same G G' ∧ Sep [] H G G' H' [D533] ∧ H' D533 = some (.lst vs537) ∧ RpAll G' vs537 ((acc536 : (List (Int × Int))).map (encT2 PyData.int PyData.int)) ∧ Same H525 H' ∧ cW (mapA (List.drop i (rng (0) (Int.toNat (v524)))) acc536 (fun x => noEr (F__sizes_c1 (fmt') x))) K531 EE) ?_ ?_ ?_⟩
    · generalize g538 : upd H525 D533 _ = H539
      obtain ⟨e540, h541⟩ := gen_new n534 g538
      have fr542 := S527.free n534
      have S543 := S527.new n534 e540 h541 fr542
      exact ⟨_, [], [], Same.refl _, S543, h541, RpAll.nil, e540, hw⟩
    · intro i H544 hi hw
      obtain ⟨G547, acc549, vs550, eG548, S545, h546, d551, eo555, hw⟩ := hw
      obtain ⟨z556, hw⟩ := cW_mapA (rng_get hi) hw
      generalize (0 + (i : Int)) = x557 at hw ⊢
      have hw := cW_noEr hw
      have hw : cW (F__sizes_c1 (fmt') (x557)) _ (fun _ => False) := hw
      unfold F__sizes_c1 at hw
      refine ⟨rfl, ?_⟩
      refine tyes_go ?_
      refine ⟨_, rfl, _, _, _, rfl, (S545.bM _ _ h_p_fmt), rfl, _, rfl, rfl, rfl, G547, _, _, fmt', _, rfl, S545.sG, (hide_nil (S545.bM _ _ h_p_fmt)), cW_call hw (fun v559 hw v562 H560 G563 e561 eG564 sG565 hn566 r567 => ?_) (fun e he => he.elim)⟩
      have S568 := S545.step e561 eG564 sG565 hn566
      obtain ⟨a569, v571, v572, rfl, h570, r573, r574⟩ := rp_tup2 r567
      obtain rfl := rp_int r573
      obtain rfl := rp_int r574
      have h575 := (e561 _ _ h546)
      refine ⟨_, h575, (app_len (RpAll.mono eG564 d551) z556), ?_⟩
      generalize g576 : upd H560 D533 _ = H577
      obtain ⟨x578, h579⟩ := gen_mut g576
      have S580 := S568.mut1 x578 (.head _) h579
      have hw := cW_ok hw
      exact ⟨_, (acc549 ++ [v559]), _, (Same.trans eG548 eG564), S580, h579, (app_map (RpAll.mono eG564 d551) (RpAll.one (rp_mk2 h570 (.int _) (.int _)))), (same_mut (Same.trans eo555 e561) x578 n534), hw⟩
    intro H581 hw
    obtain ⟨G584, acc586, vs587, eG585, S582, h583, d588, eo592, hw⟩ := hw
    have hw := hK532 _ (cW_mapA0 (rng_len _ _).symm hw)
    have fr593 := S527.free n534
    have hw := cW_ok hw
    exact hK0 _ hw _ _ _ _ fr593 S582.b0 S582.g0 S582.sG S582.gn (S582.ow _ (.head _)).1 h583 d588

abbrev N_Format_top : List Str := ["self"]
theorem sc_Format_top : FnScope N_Format_top ["self"] (defScope s_Format_top) := ⟨rfl, rfl, rfl, by decide +kernel, rfl, by decide +kernel, by decide +kernel⟩
theorem ok_Format_top (D : PropX K AD.c_Format "Format.top" "top" s_Format_top ["self"] pats_Format_top) (T : Txt w K mg AD)  : PropY P w K mg base 1 AD.c_Format "top" (sp_Format_top K AD) pats_Format_top := by
  refine D.ok T.cl_Format sc_Format_top (fun vs H Q E h => ?_) (fun f cdv A_ outer s H vs Q E hr h => ?_)
  · obtain ⟨G, p_self, dx_self, self', rfl, _⟩ := h
    rfl
  · obtain ⟨G, p_self, dx_self, self', rfl, sG, h_p_self, hw⟩ := h
    refine ⟨_, (pss_one (ps_ret (pe_op op_sub (pe_op op_shlW pe_int (fldK (K := K) (pv 0))) pe_int))), ?_⟩
    obtain ⟨KK, EE, hK0, hE, hw⟩ := cW_gen hw
    have S0 := Sep.startG sG
    unfold F_Format_top at hw
    obtain ⟨g594, hw⟩ := cW_grd hw
    refine ⟨_, rfl, _, _, _, _, _, rfl, (S0.bM _ _ h_p_self), T.cl_Format, T.n_Format_depth, rfl, _, _, rfl, rfl, (shl_side g594.1 g594.2.1 g594.2.2.1 g594.2.2.2), _, _, rfl, rfl, ?_⟩
    have hw := cW_ok hw
    exact hK0 _ hw _ S0.b0

abbrev N_check_frame : List Str := ["fmt", "frame", "plane", "row"]
theorem sc_check_frame : FnScope N_check_frame ["fmt", "frame"] (defScope s_check_frame) := ⟨rfl, rfl, rfl, by decide +kernel, rfl, by decide +kernel, by decide +kernel⟩
theorem ok_check_frame (D : DefX K mg "check_frame" s_check_frame ["fmt", "frame"] pats_check_frame) (T : Txt w K mg AD) (c__check_shape : CalX P w K mg base 1 "_check_shape" (sp__check_shape K AD) pats__check_shape) (c__sizes : CalX P w K mg base 5 "_sizes" (sp__sizes K AD) pats__sizes) (c_Format_top : PropY P w K mg base 1 AD.c_Format "top" (sp_Format_top K AD) pats_Format_top) : CalX P w K mg base 6 "check_frame" (sp_check_frame K AD) pats_check_frame := by
  refine D.ok sc_check_frame (fun vs H Q E h => ?_) (fun f cdv A_ outer s H vs Q E hr h => ?_)
  · obtain ⟨G, p_fmt, dx_fmt, fmt', v_frame, frame', rfl, _⟩ := h
    rfl
  · obtain ⟨G, p_fmt, dx_fmt, fmt', v_frame, frame', rfl, sG, h_p_fmt, r_frame, hw⟩ := h
    refine ⟨_, (pss_cons (ps_expr (vx_callX c__check_shape pat__check_shape_0 (.head _) hr (by decide) (takes_of rfl rfl rfl rfl) rfl (pa_cons (pv 1) (pa_cons (vx_callX c__sizes pat__sizes_0 (.head _) hr (by decide) (takes_of rfl rfl rfl rfl) rfl (pa_cons (pv 0) pa_nil) pk_nil) pa_nil)) pk_nil))
      (pss_one (ps_for (passes_of rfl) rfl (pi_listK (K := K) (pv 1)) (pg_name (i := 2) sc_check_frame.nd rfl (Or.inl rfl)) (pss_one (ps_for (passes_of rfl) rfl (pi_listK (K := K) (pv 2)) (pg_name (i := 3) sc_check_frame.nd rfl (Or.inl rfl)) (pss_one (ps_if (PW.pt (pw_or (pt_cmp (pc_lt (pe_callB (cr_minL (K := K) rfl) (by rfl) T.b_min (by decide +kernel) (pa_cons (pv 3) pa_nil)) pe_int)) (pw_or1 (pt_cmp (pc_gt (pe_callB (cr_maxL (K := K) rfl) (by rfl) T.b_max (by decide +kernel) (pa_cons (pv 3) pa_nil)) (vx_propX c_Format_top hr (by decide) (pv 0))))))) (pss_one (ps_raise rfl (takes_of rfl rfl rfl rfl) (pmk_own PySem.F.excBase_ValueError T.xx_BadFrame T.xg_BadFrame T.xk_BadFrame (raises_own T.xb_BadFrame T.xt_BadFrame) rfl))) pss_nil))))))), ?_⟩
    obtain ⟨KK, EE, hK0, hE, hw⟩ := cW_gen hw
    have S0 := Sep.startG sG
    unfold F_check_frame at hw
    obtain ⟨a595, vs596, rfl, h597, d598⟩ := rp_list r_frame
    refine ⟨_, rfl, _, rfl, rfl, rfl, G, _, _, fmt', rfl, S0.sG, (hide_nil (S0.bM _ _ h_p_fmt)), cW_call hw (fun v599 hw p602 vs603 H600 G604 n605 e601 eG606 sG607 hn608 gp609 h610 d611 => ?_) (fun e he H2 e2 => hE e he H2 (Same.trans S0.b0 e2))⟩
    have fr613 := S0.free n605
    have S612 := S0.stepnew e601 eG606 sG607 hn608 n605 h610 gp609 fr613
    refine ⟨rfl, rfl, G604, _, _, _, _, rfl, S612.sG, (Rp.hide_nil (rp_mk_list (S612.bM _ _ h597) (RpAll.mono S612.bM d598))), (Rp.hide_nil (rp_mk_list h610 (RpAll.mono S612.sG d611))), cW_call hw (fun v614 hw H615 e616 => ?_) (fun e he H2 e2 => hE e he H2 (Same.trans S612.b0 e2))⟩
    have S617 := S612.same e616
    obtain ⟨K619, hK620, hw⟩ := cW_push hw
    refine ⟨_, rfl, _, rfl, ⟨_, (SqL.of (S617.bM _ _ h597))⟩, for_list (K := K) (a := a595) (xs := vs596) (fun i σ H' => ∃ (u621 : Option V) (u622 : Option V) (G' : Hp), σ = [some (V.ref p_fmt), some (V.ref a595), u621, u622] ∧ Same G604 G' ∧ Sep [] H G G' H' [] ∧ cW (forS (List.drop i (frame')) () (fun s x => F_check_frame_b1 (fmt')  x)) K619 EE) ?_ ?_ ?_ ?_⟩
    · exact ⟨_, _, _, rfl, (Same.refl _), (S617.sub all_nil), hw⟩
    · intro i σ H623 _ hw
      obtain ⟨u621, u622, G625, rfl, eG626, S624, hw⟩ := hw
      exact (SqL.of (S624.bM _ _ h597))
    · intro i x σ H627 hj hw
      obtain ⟨u621, u622, G629, rfl, eG630, S628, hw⟩ := hw
      obtain ⟨x631, hx, r632⟩ := RpAll.get d598 hj
      obtain ⟨a633, vs634, rfl, h635, d636⟩ := rp_list r632
      have hw := cW_forS hx hw
      have hw : cW (F_check_frame_b1 (fmt')  (x631)) _ EE := hw
      unfold F_check_frame_b1 at hw
      obtain ⟨K637, hK638, hw⟩ := cW_name hw
      obtain ⟨K641, hK642, hw⟩ := cW_push hw
      refine ⟨_, rfl, _, rfl, ⟨_, (SqL.of (S628.bM _ _ h635))⟩, for_list (K := K) (a := a633) (xs := vs634) (fun i σ H' => ∃ (u643 : Option V) (G' : Hp), σ = [some (V.ref p_fmt), some (V.ref a595), some (V.ref a633), u643] ∧ Same G629 G' ∧ Sep [] H G G' H' [] ∧ cW (forS (List.drop i (x631)) () (fun s x => F_check_frame_b2 (fmt')  x)) K641 EE) ?_ ?_ ?_ ?_⟩
      · exact ⟨_, _, rfl, (Same.refl _), S628, hw⟩
      · intro i σ H644 _ hw
        obtain ⟨u643, G646, rfl, eG647, S645, hw⟩ := hw
        exact (SqL.of (S645.bM _ _ h635))
      · intro i x σ H648 hj hw
        obtain ⟨u643, G650, rfl, eG651, S649, hw⟩ := hw
        obtain ⟨x652, hx, r653⟩ := RpAll.get d636 hj
        obtain ⟨a654, rfl, h655⟩ := rp_ints r653
        have hw := cW_forS hx hw
        have hw : cW (F_check_frame_b2 (fmt')  (x652)) _ EE := hw
        unfold F_check_frame_b2 at hw
        obtain ⟨K656, hK657, hw⟩ := cW_name hw
        obtain ⟨g659, hw⟩ := cW_grd hw
        refine ⟨_, rfl, _, _, rfl, (SqL.of (S649.bM _ _ h655)), g659, _, _, rfl, rfl, _, rfl, ?_⟩
        refine iteD (fun c660 => ?_) (fun c660 => ?_)
        · have hw := cW_pos c660 hw
          refine iteT ?_
          exact hE 2 (cW_er hw) _ S649.b0
        · have hw := cW_neg c660 hw
          obtain ⟨g661, hw⟩ := cW_grd hw
          refine ⟨_, rfl, _, _, rfl, (SqL.of (S649.bM _ _ h655)), g661, _, rfl, _, _, _, rfl, (S649.bM _ _ h_p_fmt), G650, _, _, fmt', rfl, S649.sG, (hide_nil (S649.bM _ _ h_p_fmt)), cW_callN hw (fun v662 hw H663 e664 => ?_) trivial⟩
          have S665 := S649.same e664
          refine ⟨_, _, rfl, rfl, _, rfl, ?_⟩
          refine iteD (fun c666 => ?_) (fun c666 => ?_)
          · have hw := cW_pos c666 hw
            exact hE 2 (cW_er hw) _ S665.b0
          · have hw := cW_neg c666 hw
            have hw := cW_ok hw
            have hw := hK657 _ hw
            exact ⟨_, _, rfl, eG651, S665, hw⟩
      · intro σ H667 hw
        obtain ⟨u643, G669, rfl, eG670, S668, hw⟩ := hw
        have hw := hK642 _ (cW_forS0 (by rw [d636.len, List.length_map]) hw)
        have hw : cW (F_check_frame_r2  ) _ EE := hw
        unfold F_check_frame_r2 at hw
        have hw := cW_ok hw
        have hw := hK638 _ hw
        exact ⟨_, _, _, rfl, (Same.trans eG630 eG670), S668, hw⟩
    · intro σ H671 hw
      obtain ⟨u621, u622, G673, rfl, eG674, S672, hw⟩ := hw
      have hw := hK620 _ (cW_forS0 (by rw [d598.len, List.length_map]) hw)
      have hw : cW (F_check_frame_r1  ) _ EE := hw
      unfold F_check_frame_r1 at hw
      have hw := cW_ok hw
      exact hK0 _ hw _ S672.b0

abbrev N__pad_plane : List Str := ["plane", "size", "width", "height", "rows", "below", "row", "_"]
theorem sc__pad_plane : FnScope N__pad_plane ["plane", "size"] (defScope s__pad_plane) := ⟨rfl, rfl, rfl, by decide +kernel, rfl, by decide +kernel, by decide +kernel⟩
theorem ok__pad_plane (D : DefX K mg "_pad_plane" s__pad_plane ["plane", "size"] pats__pad_plane) (T : Txt w K mg AD)  : CalX P w K mg base 1 "_pad_plane" (sp__pad_plane K AD) pats__pad_plane := by
  refine D.ok sc__pad_plane (fun vs H Q E h => ?_) (fun f cdv A_ outer s H vs Q E hr h => ?_)
  · obtain ⟨G, v_plane, plane', v_size, size', rfl, _⟩ := h
    rfl
  · obtain ⟨G, v_plane, plane', v_size, size', rfl, sG, r_plane, r_size, hw⟩ := h
    refine ⟨_, (pss_cons (ps_asg (pv 1) (pg_tupK (K := K) (n := 2) (pgs_cons (pg_name (i := 2) sc__pad_plane.nd rfl (Or.inr rfl)) (pgs_cons (pg_name (i := 3) sc__pad_plane.nd rfl (Or.inl rfl)) pgs_nil))))
      (pss_cons (ps_set (i := 4) sc__pad_plane.nd rfl (Or.inr rfl) (pe_lc (own := [("row", 6)]) (g := gName 6) (by rfl) sc__pad_plane.nd (pi_listK (K := K) (pv 0)) (blkOk_by (own := [("row", 6)]) (N := N__pad_plane) (sc := defScope s__pad_plane) (by decide +kernel)) (fun _ _ _ _ _ => (pg_name (i := 6) sc__pad_plane.nd rfl (Or.inl rfl))) (fun _ _ _ _ _ => pts_nil) (fun _ _ _ _ _ => (pe_op op_cat (pv 6) (pe_op op_rep (pe_lst (pa_cons (pe_ix (ix_listK (K := K)) (pv 6) (pe_un un_neg pe_int) (fun _ _ => rfl)) pa_nil)) (pe_op op_sub (pv 2) (pe_callB (call_lenLiK (K := K)) (by rfl) T.b_len (by decide +kernel) (pa_cons (pv 6) pa_nil))))))))
      (pss_cons (ps_setLc (i := 5) (y := "below") rfl sc__pad_plane.nd rfl rfl (sw_true rfl rfl rfl (by decide +kernel)) (own := [("_", 7)]) (g := gName 7) (pi_range1 rfl T.b_range (pa_cons (pe_op op_sub (pv 3) (pe_callB (call_lenLK (K := K)) (by rfl) T.b_len (by decide +kernel) (pa_cons (pv 4) pa_nil))) pa_nil)) (blkOk_by (own := [("_", 7)]) (N := N__pad_plane) (sc := defScope s__pad_plane) (by decide +kernel)) (fun _ _ _ _ _ => (pg_name (i := 7) sc__pad_plane.nd rfl (Or.inl rfl))) (fun _ _ _ _ _ => pts_nil) (fun _ _ _ _ _ => (pe_callTy (call_listLK (K := K)) (by rfl) T.b_list (by decide +kernel) (pa_cons (pe_ix (ix_listK (K := K)) (pv 4) (pe_un un_neg pe_int) (fun _ _ => rfl)) pa_nil))))
      (pss_one (ps_ret (pe_op op_cat (pv 4) (pv 5))))))), ?_⟩
    obtain ⟨KK, EE, hK0, hE, hw⟩ := cW_gen hw
    have S0 := Sep.startG sG
    unfold F__pad_plane at hw
    obtain ⟨a675, vs676, rfl, h677, d678⟩ := rp_list r_plane
    obtain ⟨a679, v681, v682, rfl, h680, r683, r684⟩ := rp_tup2 r_size
    obtain rfl := rp_int r683
    obtain rfl := rp_int r684
    obtain ⟨K687, hK688, hw⟩ := cW_push hw
    refine ⟨_, rfl, _, _, rfl, (SqT.of (S0.bM _ _ h680)), rfl, _, _, rfl, _, _, rfl, rfl, _, rfl, _, rfl, ⟨_, (SqL.of (S0.bM _ _ h677))⟩, fun D689 n690 => lc_list (K := K) (a := a675) (xs := vs676) (fun i H' => ∃ (G' : Hp) (acc692 : (List (List Int))) (vs693 : List V) (L691 : List Addr), Same G G' ∧ Sep [] H G G' H' (D689 :: (L691 ++ [])) ∧ H' D689 = some (.lst vs693) ∧ OwAll G' H' L691 vs693 ((acc692 : (List (List Int))).map (oL oI)) ∧ (∀ b ∈ L691, H b = none) ∧ (∀ b ∈ L691, b ≠ D689) ∧ Same H H' ∧ cW (mapA (List.drop i (plane')) acc692 (fun x => noEr (F__pad_plane_c1 (size'.1) x))) K687 EE) ?_ ?_ ?_ ?_⟩
    · generalize g694 : upd H D689 _ = H695
      obtain ⟨e696, h697⟩ := gen_new n690 g694
      have fr698 := S0.free n690
      have S699 := S0.new n690 e696 h697 fr698
      exact ⟨_, [], [], [], Same.refl _, (S699.sub (all_cons (.head _) (all_app (L := []) all_nil all_nil))), h697, OwAll.nil, all_nil, all_nil, e696, hw⟩
    · intro i H700 _ hw
      obtain ⟨G703, acc705, vs706, L708, eG704, S701, h702, d707, nb709, nd710, eo711, hw⟩ := hw
      exact (SqL.of (S701.bM _ _ h677))
    · intro i x H712 hj hw
      obtain ⟨G715, acc717, vs718, L720, eG716, S713, h714, d719, nb721, nd722, eo723, hw⟩ := hw
      obtain ⟨x724, hx, r725⟩ := RpAll.get d678 hj
      obtain ⟨a726, rfl, h727⟩ := rp_ints r725
      obtain ⟨z728, hw⟩ := cW_mapA hx hw
      have hw := cW_noEr hw
      have hw : cW (F__pad_plane_c1 (size'.1) (x724)) _ (fun _ => False) := hw
      unfold F__pad_plane_c1 at hw
      refine ⟨rfl, ?_⟩
      refine tyes_go ?_
      obtain ⟨g730, hw⟩ := cW_grd hw
      refine ⟨_, rfl, _, rfl, _, rfl, _, _, _, _, rfl, rfl, (SqL.of (S713.bM _ _ h727)), (atI_map g730), (by show 1 ≤ sizeLine; decide), fun p731 n732 => ?_⟩
      generalize g733 : upd H712 p731 _ = H734
      obtain ⟨e735, h736⟩ := gen_new n732 g733
      have h737 : H734 p731 = some (.lst (([(itD (x724) ((-1)))] : (List Int)).map V.int)) := h736
      have fr738 := S713.free n732
      have S739 := S713.new n732 e735 h737 fr738
      obtain ⟨g740, hw⟩ := cW_grd hw
      refine ⟨_, rfl, _, rfl, _, _, rfl, (SqL.of (S739.bM _ _ h727)), _, _, rfl, rfl, _, _, _, rfl, rfl, h737, g740.1, g740.2.1, (rep_lenM g740.2.2), fun p741 n742 => ?_⟩
      generalize g743 : upd H734 p741 _ = H744
      obtain ⟨e745, h746⟩ := gen_new n742 g743
      have h747 : H744 p741 = some (.lst ((repL ([(itD (x724) ((-1)))]) ((size'.1 - (((x724) : (List Int)).length : Int))) : (List Int)).map V.int)) := rep_map h746
      have fr748 := S739.free n742
      have S749 := S739.new n742 e745 h747 fr748
      obtain ⟨g750, hw⟩ := cW_grd hw
      refine ⟨_, _, _, _, rfl, rfl, (S749.bM _ _ h727), h747, (cat_lenM g750), fun p751 n752 => ?_⟩
      generalize g753 : upd H744 p751 _ = H754
      obtain ⟨e755, h756⟩ := gen_new n752 g753
      have h757 : H754 p751 = some (.lst (((x724) ++ (repL ([(itD (x724) ((-1)))]) ((size'.1 - (((x724) : (List Int)).length : Int)))) : (List Int)).map V.int)) := cat_map h756
      have fr758 := S749.free n752
      have S759 := S749.new n752 e755 h757 fr758
      have w760 : OwAll G715 H754 L720 (vs718) ((acc717 : (List (List Int))).map (oL oI)) := (OwAll.mono (Same.refl _) (keeps_same e755) (OwAll.mono (Same.refl _) (keeps_same e745) (OwAll.mono (Same.refl _) (keeps_same e735) d719)))
      have h761 := (e755 _ _ (e745 _ _ (e735 _ _ h714)))
      refine ⟨_, h761, (app_len (OwAll.rpA w760 (encO_L encO_I) S759.sG) z728), ?_⟩
      generalize g762 : upd H754 D689 _ = H763
      obtain ⟨x764, h765⟩ := gen_mut g762
      have S766 := S759.mut1 x764 (.tail _ (.tail _ (.tail _ (.head _)))) h765
      have hw := cW_ok hw
      exact ⟨_, (acc717 ++ [(x724) ++ (repL ([(itD (x724) ((-1)))]) ((size'.1 - (((x724) : (List Int)).length : Int))))]), _, (L720 ++ (p751 :: ([] : List Addr))), eG716, (S766.sub (all_cons (.tail _ (.tail _ (.tail _ (.head _)))) (all_app (all_app ((fun b hb => (.tail _ (.tail _ (.tail _ (.tail _ (List.mem_append_left _ hb)))))) : ∀ b ∈ L720, b ∈ (p751 :: (p741 :: (p731 :: (D689 :: (L720 ++ [])))))) (all_cons (.head _) all_nil)) all_nil))), h765, (OwAll.mono (Same.refl _) (keeps_mut x764 ((all_app nd722 (all_cons (ne_of_none (e745 _ _ (e735 _ _ h714)) n752).symm all_nil)) : ∀ b ∈ (L720 ++ (p751 :: ([] : List Addr))), b ≠ D689)) (OwAll.snocM w760 (Ow.ints h757) ((fun b hb => (nm_cons ((there_ne (fun b_ hb_ => (S749.ow b_ (((fun b hb => (.tail _ (.tail _ (.tail _ (List.mem_append_left _ hb))))) : ∀ b ∈ L720, b ∈ (p741 :: (p731 :: (D689 :: (L720 ++ []))))) b_ hb_)).2.1) n752) b hb) nm_nil)) : ∀ b ∈ L720, b ∉ (p751 :: ([] : List Addr))))), ((all_app nb721 (all_cons (none_of_same (Same.trans (Same.trans eo723 e735) e745) n752) all_nil)) : ∀ b ∈ (L720 ++ (p751 :: ([] : List Addr))), H b = none), ((all_app nd722 (all_cons (ne_of_none (e745 _ _ (e735 _ _ h714)) n752).symm all_nil)) : ∀ b ∈ (L720 ++ (p751 :: ([] : List Addr))), b ≠ D689), (same_mut (Same.trans (Same.trans (Same.trans eo723 e735) e745) e755) x764 n690), hw⟩
    intro H767 hw
    obtain ⟨G770, acc772, vs773, L775, eG771, S768, h769, d774, nb776, nd777, eo778, hw⟩ := hw
    have hw := hK688 _ (cW_mapA0 (by rw [d678.len, List.length_map]) hw)
    have fr779 := S0.free n690
    obtain ⟨g780, hw⟩ := cW_grd hw
    obtain ⟨K783, hK784, hw⟩ := cW_push hw
    refine ⟨_, rfl, _, rfl, _, _, _, rfl, (SqL.of h769), (by rw [(OwAll.rpA d774 (encO_L encO_I) S768.sG).len, List.length_map]), _, _, rfl, rfl, _, rfl, g780.1, g780.2, fun D785 n786 => lc_range (lo := 0) (n := Int.toNat ((size'.2 - (((acc772) : (List (List Int))).length : Int)))) (fun i H' => ∃ (G' : Hp) (acc788 : (List (List Int))) (vs789 : List V) (L787 : List Addr), Same G770 G' ∧ Sep [] H G G' H' (D785 :: (L787 ++ (D689 :: (L775 ++ [])))) ∧ H' D689 = some (.lst (vs773)) ∧ H' D785 = some (.lst vs789) ∧ OwAll G' H' L775 (vs773) ((acc772 : (List (List Int))).map (oL oI)) ∧ OwAll G' H' L787 vs789 ((acc788 : (List (List Int))).map (oL oI)) ∧ (∀ b ∈ L787, H767 b = none) ∧ (∀ b ∈ L787, b ≠ D785) ∧ Same H767 H' ∧ cW (mapA (List.drop i (rng (0) (Int.toNat ((size'.2 - (((acc772) : (List (List Int))).length : Int)))))) acc788 (fun x => noEr (F__pad_plane_c2 (acc772) x))) K783 EE) ?_ ?_ ?_⟩
    · generalize g790 : upd H767 D785 _ = H791
      obtain ⟨e792, h793⟩ := gen_new n786 g790
      have fr794 := S768.free n786
      have S795 := S768.new n786 e792 h793 fr794
      have h796 := (e792 _ _ h769)
      have w797 : OwAll G770 H791 L775 (vs773) ((acc772 : (List (List Int))).map (oL oI)) := (OwAll.mono (Same.refl _) (keeps_same e792) d774)
      exact ⟨_, [], [], [], Same.refl _, (S795.sub (all_cons (.head _) (all_app (L := []) all_nil (all_cons (.tail _ (.head _)) (all_app ((fun b hb => (.tail _ (.tail _ (List.mem_append_left _ hb)))) : ∀ b ∈ L775, b ∈ (D785 :: (D689 :: (L775 ++ [])))) all_nil))))), h796, h793, w797, OwAll.nil, all_nil, all_nil, e792, hw⟩
    · intro i H798 hi hw
      obtain ⟨G801, acc803, vs804, L806, eG802, S799, h810, h800, w811, d805, nb807, nd808, eo809, hw⟩ := hw
      obtain ⟨z812, hw⟩ := cW_mapA (rng_get hi) hw
      generalize (0 + (i : Int)) = x813 at hw ⊢
      have hw := cW_noEr hw
      have hw : cW (F__pad_plane_c2 (acc772) (x813)) _ (fun _ => False) := hw
      unfold F__pad_plane_c2 at hw
      refine ⟨rfl, ?_⟩
      refine tyes_go ?_
      obtain ⟨g815, hw⟩ := cW_grd hw
      obtain ⟨v816, L817, a818, w819, hs820, up821, gr822⟩ := OwAll.partM (k := (-1)) w811 g815
      obtain ⟨b823, rfl, rfl, h824⟩ := Ow.toInts w819
      refine ⟨_, rfl, _, rfl, _, _, _, _, rfl, rfl, (SqL.of h810), a818, _, _, rfl, (SqL.of h824), fun p825 n826 => ?_⟩
      generalize g827 : upd H798 p825 _ = H828
      obtain ⟨e829, h830⟩ := gen_new n826 g827
      have h831 : H828 p825 = some (.lst (((itD (acc772) ((-1))) : (List Int)).map V.int)) := h830
      have fr832 := S799.free n826
      have S833 := S799.new n826 e829 h831 fr832
      have w834 : OwAll G801 H828 L806 (vs804) ((acc803 : (List (List Int))).map (oL oI)) := (OwAll.mono (Same.refl _) (keeps_same e829) d805)
      have h835 := (e829 _ _ h800)
      refine ⟨_, h835, (app_len (OwAll.rpA w834 (encO_L encO_I) S833.sG) z812), ?_⟩
      generalize g836 : upd H828 D785 _ = H837
      obtain ⟨x838, h839⟩ := gen_mut g836
      have S840 := S833.mut1 x838 (.tail _ (.head _)) h839
      have hw := cW_ok hw
      have h841 := (x838 _ _ (e829 _ _ h810) (ne_of_none h769 n786))
      have w842 : OwAll G801 H837 L775 (vs773) ((acc772 : (List (List Int))).map (oL oI)) := (OwAll.mono (Same.refl _) (keeps_mut x838 ((there_ne (fun b_ hb_ => (S768.ow b_ (((fun b hb => (.tail _ (List.mem_append_left _ hb))) : ∀ b ∈ L775, b ∈ (D689 :: (L775 ++ []))) b_ hb_)).2.1) n786) : ∀ b ∈ L775, b ≠ D785)) (OwAll.mono (Same.refl _) (keeps_same e829) w811))
      exact ⟨_, (acc803 ++ [(itD (acc772) ((-1)))]), _, (L806 ++ (p825 :: ([] : List Addr))), eG802, (S840.sub (all_cons (.tail _ (.head _)) (all_app (all_app ((fun b hb => (.tail _ (.tail _ (List.mem_append_left _ hb)))) : ∀ b ∈ L806, b ∈ (p825 :: (D785 :: (L806 ++ (D689 :: (L775 ++ [])))))) (all_cons (.head _) all_nil)) (all_cons (.tail _ (.tail _ (List.mem_append_right _ (.head _)))) (all_app ((fun b hb => (.tail _ (.tail _ (List.mem_append_right _ (.tail _ (List.mem_append_left _ hb)))))) : ∀ b ∈ L775, b ∈ (p825 :: (D785 :: (L806 ++ (D689 :: (L775 ++ [])))))) all_nil))))), h841, h839, w842, (OwAll.mono (Same.refl _) (keeps_mut x838 ((all_app nd808 (all_cons (ne_of_none h800 n826).symm all_nil)) : ∀ b ∈ (L806 ++ (p825 :: ([] : List Addr))), b ≠ D785)) (OwAll.snocM w834 (Ow.ints h831) ((fun b hb => (nm_cons ((there_ne (fun b_ hb_ => (S799.ow b_ (((fun b hb => (.tail _ (List.mem_append_left _ hb))) : ∀ b ∈ L806, b ∈ (D785 :: (L806 ++ (D689 :: (L775 ++ []))))) b_ hb_)).2.1) n826) b hb) nm_nil)) : ∀ b ∈ L806, b ∉ (p825 :: ([] : List Addr))))), ((all_app nb807 (all_cons (none_of_same eo809 n826) all_nil)) : ∀ b ∈ (L806 ++ (p825 :: ([] : List Addr))), H767 b = none), ((all_app nd808 (all_cons (ne_of_none h800 n826).symm all_nil)) : ∀ b ∈ (L806 ++ (p825 :: ([] : List Addr))), b ≠ D785), (same_mut (Same.trans eo809 e829) x838 n786), hw⟩
    intro H843 hw
    obtain ⟨G846, acc848, vs849, L851, eG847, S844, h855, h845, w856, d850, nb852, nd853, eo854, hw⟩ := hw
    have hw := hK784 _ (cW_mapA0 (rng_len _ _).symm hw)
    have fr857 := S768.free n786
    obtain ⟨g858, hw⟩ := cW_grd hw
    refine ⟨_, rfl, _, rfl, _, _, _, _, rfl, rfl, h855, h845, (cat_lenW w856 d850 g858), fun p859 n860 => ?_⟩
    generalize g861 : upd H843 p859 _ = H862
    obtain ⟨e863, h864⟩ := gen_new n860 g861
    have h865 : H862 p859 = some (.lst ((vs773) ++ (vs849))) := h864
    have fr867 := S844.free n860
    have S868 := S844.new n860 e863 h865 fr867
    have w869 : OwAll G846 H862 L775 (vs773) ((acc772 : (List (List Int))).map (oL oI)) := (OwAll.mono (Same.refl _) (keeps_same e863) w856)
    have w870 : OwAll G846 H862 L851 (vs849) ((acc848 : (List (List Int))).map (oL oI)) := (OwAll.mono (Same.refl _) (keeps_same e863) d850)
    have w866 := app_trees (((acc772) ++ (acc848) : (List (List Int)))) rfl w869 w870 ((fun b hb => ((nl_symm (new_nl nb852 (fun b_ hb_ => (S768.ow b_ (((fun b hb => (.tail _ (List.mem_append_left _ hb))) : ∀ b ∈ L775, b ∈ (D689 :: (L775 ++ []))) b_ hb_)).2.1))) b hb)) : ∀ b ∈ L775, b ∉ L851)
    have hw := cW_ok hw
    exact hK0 _ hw _ _ _ _ _ fr867 ((all_app (fun b hb => S0.free (nb776 b hb)) (fun b hb => S768.free (nb852 b hb))) : ∀ b ∈ (L775 ++ L851), H b = none) ((all_app (there_ne (fun b_ hb_ => (S844.ow b_ (((fun b hb => (.tail _ (List.mem_append_right _ (.tail _ (List.mem_append_left _ hb))))) : ∀ b ∈ L775, b ∈ (D785 :: (L851 ++ (D689 :: (L775 ++ []))))) b_ hb_)).2.1) n860) (there_ne (fun b_ hb_ => (S844.ow b_ (((fun b hb => (.tail _ (List.mem_append_left _ hb))) : ∀ b ∈ L851, b ∈ (D785 :: (L851 ++ (D689 :: (L775 ++ []))))) b_ hb_)).2.1) n860)) : ∀ b ∈ (L775 ++ L851), b ≠ p859) S868.b0 S868.g0 S868.sG S868.gn (S868.ow _ (.head _)).1 ((all_app (fun b hb => (S868.ow b (((fun b hb => (.tail _ (.tail _ (List.mem_append_right _ (.tail _ (List.mem_append_left _ hb)))))) : ∀ b ∈ L775, b ∈ (p859 :: (D785 :: (L851 ++ (D689 :: (L775 ++ [])))))) b hb)).1) (fun b hb => (S868.ow b (((fun b hb => (.tail _ (.tail _ (List.mem_append_left _ hb)))) : ∀ b ∈ L851, b ∈ (p859 :: (D785 :: (L851 ++ (D689 :: (L775 ++ [])))))) b hb)).1)) : ∀ b ∈ (L775 ++ L851), G846 b = none) h865 w866

abbrev N__coded_sizes : List Str := ["fmt", "plane"]
theorem sc__coded_sizes : FnScope N__coded_sizes ["fmt"] (defScope s__coded_sizes) := ⟨rfl, rfl, rfl, by decide +kernel, rfl, by decide +kernel, by decide +kernel⟩
theorem ok__coded_sizes (D : DefX K mg "_coded_sizes" s__coded_sizes ["fmt"] pats__coded_sizes) (T : Txt w K mg AD) (c_Format_planes : PropY P w K mg base 1 AD.c_Format "planes" (sp_Format_planes K AD) pats_Format_planes) (c_Format_coded_size : MetX P w K mg base 4 AD.c_Format "coded_size" (sp_Format_coded_size K AD) pats_Format_coded_size) : CalX P w K mg base 5 "_coded_sizes" (sp__coded_sizes K AD) pats__coded_sizes := by
  refine D.ok sc__coded_sizes (fun vs H Q E h => ?_) (fun f cdv A_ outer s H vs Q E hr h => ?_)
  · obtain ⟨G, p_fmt, dx_fmt, fmt', rfl, _⟩ := h
    rfl
  · obtain ⟨G, p_fmt, dx_fmt, fmt', rfl, sG, h_p_fmt, hw⟩ := h
    refine ⟨_, (pss_one (ps_ret (pe_lc (own := [("plane", 1)]) (g := gName 1) (by rfl) sc__coded_sizes.nd (pi_range1 rfl T.b_range (pa_cons (vx_propX c_Format_planes hr (by decide) (pv 0)) pa_nil)) (blkOk_by (own := [("plane", 1)]) (N := N__coded_sizes) (sc := defScope s__coded_sizes) (by decide +kernel)) (fun _ _ _ _ _ => (pg_name (i := 1) sc__coded_sizes.nd rfl (Or.inl rfl))) (fun _ _ _ _ _ => pts_nil) (fun _ _ _ _ _ => (vx_methX c_Format_coded_size pat_Format_coded_size_0 (.head _) hr (by decide) takes0 (pv 0) (pa_cons (pv 1) pa_nil) pk_nil))))), ?_⟩
    obtain ⟨KK, EE, hK0, hE, hw⟩ := cW_gen hw
    have S0 := Sep.startG sG
    unfold F__coded_sizes at hw
    refine ⟨_, rfl, _, _, _, rfl, (S0.bM _ _ h_p_fmt), G, _, _, fmt', rfl, S0.sG, (hide_nil (S0.bM _ _ h_p_fmt)), cW_callN hw (fun v871 hw H872 e873 => ?_) trivial⟩
    have S874 := S0.same e873
    obtain ⟨g875, hw⟩ := cW_grd hw
    obtain ⟨K878, hK879, hw⟩ := cW_push hw
    refine ⟨_, rfl, g875.1, g875.2, fun D880 n881 => lc_range (lo := 0) (n := Int.toNat (v871)) (fun i H' => ∃ (G' : Hp) (acc883 : (List (Int × Int))) (vs884 : List V), Same G G' ∧ Sep [] H G G' H' [D880] ∧ H' D880 = some (.lst vs884) ∧ RpAll G' vs884 ((acc883 : (List (Int × Int))).map (encT2 PyData.int PyData.int)) ∧ Same H872 H' ∧ cW (mapA (List.drop i (rng (0) (Int.toNat (v871)))) acc883 (fun x => noEr (F__coded_sizes_c1 (fmt') x))) K878 EE) ?_ ?_ ?_⟩
    · generalize g885 : upd H872 D880 _ = H886
      obtain ⟨e887, h888⟩ := gen_new n881 g885
      have fr889 := S874.free n881
      have S890 := S874.new n881 e887 h888 fr889
      exact ⟨_, [], [], Same.refl _, S890, h888, RpAll.nil, e887, hw⟩
    · intro i H891 hi hw
      obtain ⟨G894, acc896, vs897, eG895, S892, h893, d898, eo902, hw⟩ := hw
      obtain ⟨z903, hw⟩ := cW_mapA (rng_get hi) hw
      generalize (0 + (i : Int)) = x904 at hw ⊢
      have hw := cW_noEr hw
      have hw : cW (F__coded_sizes_c1 (fmt') (x904)) _ (fun _ => False) := hw
      unfold F__coded_sizes_c1 at hw
      refine ⟨rfl, ?_⟩
      refine tyes_go ?_
      refine ⟨_, rfl, _, _, _, rfl, (S892.bM _ _ h_p_fmt), rfl, _, rfl, rfl, rfl, G894, _, _, fmt', _, rfl, S892.sG, (hide_nil (S892.bM _ _ h_p_fmt)), cW_call hw (fun v906 hw v909 H907 G910 e908 eG911 sG912 hn913 r914 => ?_) (fun e he => he.elim)⟩
      have S915 := S892.step e908 eG911 sG912 hn913
      obtain ⟨a916, v918, v919, rfl, h917, r920, r921⟩ := rp_tup2 r914
      obtain rfl := rp_int r920
      obtain rfl := rp_int r921
      have h922 := (e908 _ _ h893)
      refine ⟨_, h922, (app_len (RpAll.mono eG911 d898) z903), ?_⟩
      generalize g923 : upd H907 D880 _ = H924
      obtain ⟨x925, h926⟩ := gen_mut g923
      have S927 := S915.mut1 x925 (.head _) h926
      have hw := cW_ok hw
      exact ⟨_, (acc896 ++ [v906]), _, (Same.trans eG895 eG911), S927, h926, (app_map (RpAll.mono eG911 d898) (RpAll.one (rp_mk2 h917 (.int _) (.int _)))), (same_mut (Same.trans eo902 e908) x925 n881), hw⟩
    intro H928 hw
    obtain ⟨G931, acc933, vs934, eG932, S929, h930, d935, eo939, hw⟩ := hw
    have hw := hK879 _ (cW_mapA0 (rng_len _ _).symm hw)
    have fr940 := S874.free n881
    have hw := cW_ok hw
    exact hK0 _ hw _ _ _ _ fr940 S929.b0 S929.g0 S929.sG S929.gn (S929.ow _ (.head _)).1 h930 d935

abbrev N_pad_frame : List Str := ["fmt", "frame", "plane", "size"]
theorem sc_pad_frame : FnScope N_pad_frame ["fmt", "frame"] (defScope s_pad_frame) := ⟨rfl, rfl, rfl, by decide +kernel, rfl, by decide +kernel, by decide +kernel⟩
theorem ok_pad_frame (D : DefX K mg "pad_frame" s_pad_frame ["fmt", "frame"] pats_pad_frame) (T : Txt w K mg AD) (c_check_frame : CalX P w K mg base 6 "check_frame" (sp_check_frame K AD) pats_check_frame) (c__coded_sizes : CalX P w K mg base 5 "_coded_sizes" (sp__coded_sizes K AD) pats__coded_sizes) (c__pad_plane : CalX P w K mg base 1 "_pad_plane" (sp__pad_plane K AD) pats__pad_plane) : CalX P w K mg base 7 "pad_frame" (sp_pad_frame K AD) pats_pad_frame := by
  refine D.ok sc_pad_frame (fun vs H Q E h => ?_) (fun f cdv A_ outer s H vs Q E hr h => ?_)
  · obtain ⟨G, p_fmt, dx_fmt, fmt', v_frame, frame', rfl, _⟩ := h
    rfl
  · obtain ⟨G, p_fmt, dx_fmt, fmt', v_frame, frame', rfl, sG, h_p_fmt, r_frame, hw⟩ := h
    refine ⟨_, (pss_cons (ps_expr (vx_callX c_check_frame pat_check_frame_0 (.head _) hr (by decide) (takes_of rfl rfl rfl rfl) rfl (pa_cons (pv 0) (pa_cons (pv 1) pa_nil)) pk_nil))
      (pss_one (ps_ret (pe_lc (own := [("plane", 2), ("size", 3)]) (g := gTup K 2 (gCons (gName 2) (gCons (gName 3) gNil))) (by rfl) sc_pad_frame.nd (pi_zipK (K := K) rfl T.b_zip (pa_cons (pv 1) (pa_cons (vx_callX c__coded_sizes pat__coded_sizes_0 (.head _) hr (by decide) (takes_of rfl rfl rfl rfl) rfl (pa_cons (pv 0) pa_nil) pk_nil) pa_nil))) (blkOk_by (own := [("plane", 2), ("size", 3)]) (N := N_pad_frame) (sc := defScope s_pad_frame) (by decide +kernel)) (fun _ _ _ _ _ => (pg_tupK (K := K) (n := 2) (pgs_cons (pg_name (i := 2) sc_pad_frame.nd rfl (Or.inl rfl)) (pgs_cons (pg_name (i := 3) sc_pad_frame.nd rfl (Or.inl rfl)) pgs_nil)))) (fun _ _ _ _ _ => pts_nil) (fun _ _ _ _ _ => (vx_callX c__pad_plane pat__pad_plane_0 (.head _) hr (by decide) takes0 rfl (pa_cons (pv 2) (pa_cons (pv 3) pa_nil)) pk_nil)))))), ?_⟩
    obtain ⟨KK, EE, hK0, hE, hw⟩ := cW_gen hw
    have S0 := Sep.startG sG
    unfold F_pad_frame at hw
    obtain ⟨a941, vs942, rfl, h943, d944⟩ := rp_list r_frame
    refine ⟨_, rfl, _, rfl, rfl, rfl, G, _, _, fmt', _, _, rfl, S0.sG, (hide_nil (S0.bM _ _ h_p_fmt)), (Rp.hide_nil (rp_mk_list (S0.bM _ _ h943) (RpAll.mono S0.bM d944))), cW_call hw (fun v945 hw H946 e947 => ?_) (fun e he H2 e2 => hE e he H2 (Same.trans S0.b0 e2))⟩
    have S948 := S0.same e947
    refine ⟨_, rfl, _, rfl, rfl, rfl, G, _, _, fmt', rfl, S948.sG, (hide_nil (S948.bM _ _ h_p_fmt)), cW_call hw (fun v949 hw p952 vs953 H950 G954 n955 e951 eG956 sG957 hn958 gp959 h960 d961 => ?_) (fun e he H2 e2 => hE e he H2 (Same.trans S948.b0 e2))⟩
    have fr963 := S948.free n955
    have S962 := S948.stepnew e951 eG956 sG957 hn958 n955 h960 gp959 fr963
    obtain ⟨K965, hK966, hw⟩ := cW_push hw
    refine ⟨_, _, _, _, rfl, .inl ⟨(SqL.of (S962.bM _ _ h943)), (SqL.of h960), fun D967 n968 => lc_zipM (K := K) (a := a941) (b := p952) (xs := vs942) (ys := vs953) (min ((frame' : (List (List (List Int)))).length) ((v949 : (List (Int × Int))).length)) (zipM_n (by rw [d944.len, List.length_map]) (by rw [d961.len, List.length_map])) (fun i H' => ∃ (G' : Hp) (acc970 : (List (List (List Int)))) (vs971 : List V) (L969 : List Addr), Same G954 G' ∧ Sep [] H G G' H' (D967 :: (L969 ++ (p952 :: []))) ∧ H' p952 = some (.lst (vs953)) ∧ H' D967 = some (.lst vs971) ∧ OwAll G' H' L969 vs971 ((acc970 : (List (List (List Int)))).map (oL (oL oI))) ∧ (∀ b ∈ L969, H950 b = none) ∧ (∀ b ∈ L969, b ≠ D967) ∧ Same H950 H' ∧ cW (mapA (List.drop i (List.zip (frame') (v949))) acc970 (fun x => noEr (F_pad_frame_c1  x))) K965 EE) ?_ ?_ ?_ ?_⟩⟩
    · generalize g972 : upd H950 D967 _ = H973
      obtain ⟨e974, h975⟩ := gen_new n968 g972
      have fr976 := S962.free n968
      have S977 := S962.new n968 e974 h975 fr976
      have h978 := (e974 _ _ h960)
      exact ⟨_, [], [], [], Same.refl _, (S977.sub (all_cons (.head _) (all_app (L := []) all_nil (all_cons (.tail _ (.head _)) all_nil)))), h978, h975, OwAll.nil, all_nil, all_nil, e974, hw⟩
    · intro i H979 _ hw
      obtain ⟨G982, acc984, vs985, L987, eG983, S980, h991, h981, d986, nb988, nd989, eo990, hw⟩ := hw
      exact ⟨(SqL.of (S980.bM _ _ h943)), (SqL.of h991)⟩
    · intro i x y T994 H992 hj hj2 n993 hw
      obtain ⟨G997, acc999, vs1000, L1002, eG998, S995, h1006, h996, d1001, nb1003, nd1004, eo1005, hw⟩ := hw
      obtain ⟨x1007, hx1008, r1009⟩ := RpAll.get d944 hj
      obtain ⟨a1010, vs1011, rfl, h1012, d1013⟩ := rp_list r1009
      obtain ⟨x1014, hx1015, r1016⟩ := RpAll.get (RpAll.mono eG998 d961) hj2
      obtain ⟨a1017, v1019, v1020, rfl, h1018, r1021, r1022⟩ := rp_tup2 r1016
      obtain rfl := rp_int r1021
      obtain rfl := rp_int r1022
      generalize g1023 : upd H992 T994 _ = H1024
      obtain ⟨e1025, h1026⟩ := gen_new n993 g1023
      have h1027 : H1024 T994 = some (.tup [V.ref a1010, V.ref a1017]) := h1026
      have fr1028 := S995.free n993
      obtain ⟨G1030, eG1031, hg1032, S1029⟩ := S995.grow n993 e1025 h1027 fr1028
      obtain ⟨z1033, hw⟩ := cW_mapA (zip_get hx1008 hx1015) hw
      have hw := cW_noEr hw
      have hw : cW (F_pad_frame_c1  ((x1007, x1014))) _ (fun _ => False) := hw
      unfold F_pad_frame_c1 at hw
      refine ⟨_, _, rfl, (SqT.of (S1029.sG _ _ hg1032)), rfl, _, _, rfl, _, _, rfl, rfl, rfl, ?_⟩
      refine tyes_go ?_
      refine ⟨_, rfl, _, rfl, rfl, rfl, G1030, _, _, _, _, rfl, S1029.sG, (Rp.hide_nil (rp_mk_list (S1029.bM _ _ h1012) (RpAll.mono S1029.bM d1013))), (Rp.hide_nil (rp_mk2 (S1029.sG _ _ (eG1031 _ _ h1018)) (.int _) (.int _))), cW_call hw (fun v1035 hw H1036 a1038 vs1039 L1040 G1041 n1042 nb1043 nd1044 e1037 eG1045 sG1046 hn1047 ga1048 gL1049 h1050 w1051 => ?_) (fun e he => he.elim)⟩
      have fr1052 := S1029.free n1042
      have S1053 : Sep _ _ _ _ H1036 (a1038 :: (L1040 ++ (D967 :: (L1002 ++ (p952 :: []))))) := Sep.steptree S1029 e1037 eG1045 sG1046 hn1047 (a1038 :: L1040) (all_cons ⟨n1042, ga1048, some_ne h1050⟩ (fun b hb => ⟨nb1043 b hb, gL1049 b hb, OwAll.there w1051 b hb⟩))
      have w1054 : OwAll G1041 H1036 L1002 (vs1000) ((acc999 : (List (List (List Int)))).map (oL (oL oI))) := (OwAll.mono (Same.trans eG1031 eG1045) keeps_refl (OwAll.mono (Same.refl _) (keeps_same e1037) (OwAll.mono (Same.refl _) (keeps_same e1025) d1001)))
      have h1055 := (e1037 _ _ (e1025 _ _ h996))
      refine ⟨_, h1055, (app_len (OwAll.rpA w1054 (encO_L (encO_L encO_I)) S1053.sG) z1033), ?_⟩
      generalize g1056 : upd H1036 D967 _ = H1057
      obtain ⟨x1058, h1059⟩ := gen_mut g1056
      have S1060 := S1053.mut1 x1058 (.tail _ (List.mem_append_right _ (.head _))) h1059
      have hw := cW_ok hw
      have h1061 := (x1058 _ _ (e1037 _ _ (e1025 _ _ h1006)) (ne_of_none h960 n968))
      exact ⟨_, (acc999 ++ [v1035]), _, (L1002 ++ (a1038 :: L1040)), (Same.trans (Same.trans eG998 eG1031) eG1045), (S1060.sub (all_cons (.tail _ (List.mem_append_right _ (.head _))) (all_app (all_app ((fun b hb => (.tail _ (List.mem_append_right _ (.tail _ (List.mem_append_left _ hb))))) : ∀ b ∈ L1002, b ∈ (a1038 :: (L1040 ++ (D967 :: (L1002 ++ (p952 :: [])))))) (all_cons (.head _) ((fun b hb => (.tail _ (List.mem_append_left _ hb))) : ∀ b ∈ L1040, b ∈ (a1038 :: (L1040 ++ (D967 :: (L1002 ++ (p952 :: [])))))))) (all_cons (.tail _ (List.mem_append_right _ (.tail _ (List.mem_append_right _ (.head _))))) all_nil)))), h1061, h1059, (OwAll.mono (Same.refl _) (keeps_mut x1058 ((all_app nd1004 (all_cons (ne_of_none (e1025 _ _ h996) n1042).symm (new_ne2 nb1043 (S1029.ow _ (.head _)).2.1))) : ∀ b ∈ (L1002 ++ (a1038 :: L1040)), b ≠ D967)) (OwAll.snocM w1054 (Ow.list h1050 w1051 (nd1044 : ∀ b ∈ L1040, b ≠ a1038)) ((fun b hb => (nm_cons ((there_ne (fun b_ hb_ => (S1029.ow b_ (((fun b hb => (.tail _ (List.mem_append_left _ hb))) : ∀ b ∈ L1002, b ∈ (D967 :: (L1002 ++ (p952 :: [])))) b_ hb_)).2.1) n1042) b hb) ((nl_symm (new_nl nb1043 (fun b_ hb_ => (S1029.ow b_ (((fun b hb => (.tail _ (List.mem_append_left _ hb))) : ∀ b ∈ L1002, b ∈ (D967 :: (L1002 ++ (p952 :: [])))) b_ hb_)).2.1))) b hb))) : ∀ b ∈ L1002, b ∉ (a1038 :: L1040)))), ((all_app nb1003 (all_cons (none_of_same (Same.trans eo1005 e1025) n1042) (fun b hb => none_of_same (Same.trans eo1005 e1025) (nb1043 b hb)))) : ∀ b ∈ (L1002 ++ (a1038 :: L1040)), H950 b = none), ((all_app nd1004 (all_cons (ne_of_none (e1025 _ _ h996) n1042).symm (new_ne2 nb1043 (S1029.ow _ (.head _)).2.1))) : ∀ b ∈ (L1002 ++ (a1038 :: L1040)), b ≠ D967), (same_mut (Same.trans (Same.trans eo1005 e1025) e1037) x1058 n968), hw⟩
    intro H1062 hw
    obtain ⟨G1065, acc1067, vs1068, L1070, eG1066, S1063, h1074, h1064, d1069, nb1071, nd1072, eo1073, hw⟩ := hw
    have hw := hK966 _ (cW_mapA0 zipM_len hw)
    have fr1075 := S962.free n968
    have hw := cW_ok hw
    exact hK0 _ hw _ _ _ _ _ fr1075 ((fun b hb => S962.free (nb1071 b hb)) : ∀ b ∈ L1070, H b = none) (nd1072 : ∀ b ∈ L1070, b ≠ D967) S1063.b0 S1063.g0 S1063.sG S1063.gn (S1063.ow _ (.head _)).1 ((fun b hb => (S1063.ow b (((fun b hb => (.tail _ (List.mem_append_left _ hb))) : ∀ b ∈ L1070, b ∈ (D967 :: (L1070 ++ (p952 :: [])))) b hb)).1) : ∀ b ∈ L1070, G1065 b = none) h1064 d1069

abbrev N_Format_middle : List Str := ["self"]
theorem sc_Format_middle : FnScope N_Format_middle ["self"] (defScope s_Format_middle) := ⟨rfl, rfl, rfl, by decide +kernel, rfl, by decide +kernel, by decide +kernel⟩
theorem ok_Format_middle (D : PropX K AD.c_Format "Format.middle" "middle" s_Format_middle ["self"] pats_Format_middle) (T : Txt w K mg AD)  : PropY P w K mg base 1 AD.c_Format "middle" (sp_Format_middle K AD) pats_Format_middle := by
  refine D.ok T.cl_Format sc_Format_middle (fun vs H Q E h => ?_) (fun f cdv A_ outer s H vs Q E hr h => ?_)
  · obtain ⟨G, p_self, dx_self, self', rfl, _⟩ := h
    rfl
  · obtain ⟨G, p_self, dx_self, self', rfl, sG, h_p_self, hw⟩ := h
    refine ⟨_, (pss_one (ps_ret (pe_op op_shlW pe_int (pe_op op_sub (fldK (K := K) (pv 0)) pe_int)))), ?_⟩
    obtain ⟨KK, EE, hK0, hE, hw⟩ := cW_gen hw
    have S0 := Sep.startG sG
    unfold F_Format_middle at hw
    obtain ⟨g1076, hw⟩ := cW_grd hw
    refine ⟨_, rfl, _, _, _, _, _, rfl, (S0.bM _ _ h_p_self), T.cl_Format, T.n_Format_depth, rfl, _, _, rfl, rfl, _, _, rfl, rfl, (shl_side g1076.1 g1076.2.1 g1076.2.2.1 g1076.2.2.2), ?_⟩
    have hw := cW_ok hw
    exact hK0 _ hw _ S0.b0

abbrev N_flat_frame : List Str := ["fmt", "value", "sample", "frame", "width", "height", "_"]
theorem sc_flat_frame : FnScope N_flat_frame ["fmt", "value"] (defScope s_flat_frame) := ⟨rfl, rfl, rfl, by decide +kernel, rfl, by decide +kernel, by decide +kernel⟩
theorem ok_flat_frame (D : DefX K mg "flat_frame" s_flat_frame ["fmt", "value"] pats_flat_frame) (T : Txt w K mg AD) (c_Format_middle : PropY P w K mg base 1 AD.c_Format "middle" (sp_Format_middle K AD) pats_Format_middle) (c_Format_top : PropY P w K mg base 1 AD.c_Format "top" (sp_Format_top K AD) pats_Format_top) (c__sizes : CalX P w K mg base 5 "_sizes" (sp__sizes K AD) pats__sizes) : CalX P w K mg base 6 "flat_frame" (sp_flat_frame K AD) pats_flat_frame := by
  refine D.ok sc_flat_frame (fun vs H Q E h => ?_) (fun f cdv A_ outer s H vs Q E hr h => ?_)
  · obtain ⟨G, p_fmt, dx_fmt, fmt', v_value, value', rfl, _⟩ := h
    rfl
  · obtain ⟨G, p_fmt, dx_fmt, fmt', v_value, value', rfl, sG, h_p_fmt, r_value, hw⟩ := h
    refine ⟨_, (pss_cons (ps_set (i := 2) sc_flat_frame.nd rfl (Or.inr rfl) (pe_ifExp (pt_cmpR op_isND (pv 1) pe_non (nomark _)) (vx_propX c_Format_middle hr (by decide) (pv 0)) (pv 1)))
      (pss_cons (ps_if (pt_not (pt_chain op_le op_le pe_int (pv 2) (vx_propX c_Format_top hr (by decide) (pv 0)))) (pss_one (ps_raise rfl (takes_of rfl rfl rfl rfl) (pmk_own PySem.F.excBase_ValueError T.xx_OutOfRange T.xg_OutOfRange T.xk_OutOfRange (raises_own T.xb_OutOfRange T.xt_OutOfRange) rfl))) pss_nil)
      (pss_cons (ps_set (i := 3) sc_flat_frame.nd rfl (Or.inl rfl) (pe_lst pa_nil))
      (pss_cons (ps_for (passes_of rfl) rfl (pi_listK (K := K) (vx_callX c__sizes pat__sizes_0 (.head _) hr (by decide) (takes_of rfl rfl rfl rfl) rfl (pa_cons (pv 0) pa_nil) pk_nil)) (pg_tupK (K := K) (n := 2) (pgs_cons (pg_name (i := 4) sc_flat_frame.nd rfl (Or.inr rfl)) (pgs_cons (pg_name (i := 5) sc_flat_frame.nd rfl (Or.inl rfl)) pgs_nil))) (pss_one (ps_expr (pe_bm PySem.F.plainAttrs_list PySem.F.slot_list_append PySem.F.type_list_append mt_append (pv 3) (pa_cons (pe_lc (own := [("_", 6)]) (g := gName 6) (by rfl) sc_flat_frame.nd (pi_range1 rfl T.b_range (pa_cons (pv 5) pa_nil)) (blkOk_by (own := [("_", 6)]) (N := N_flat_frame) (sc := defScope s_flat_frame) (by decide +kernel)) (fun _ _ _ _ _ => (pg_name (i := 6) sc_flat_frame.nd rfl (Or.inl rfl))) (fun _ _ _ _ _ => pts_nil) (fun _ _ _ _ _ => (pe_op op_rep (pe_lst (pa_cons (pv 2) pa_nil)) (pv 4)))) pa_nil)))))
      (pss_one (ps_ret (pv 3))))))), ?_⟩
    obtain ⟨KK, EE, hK0, hE, hw⟩ := cW_gen hw
    have S0 := Sep.startG sG
    unfold F_flat_frame at hw
    refine ⟨_, rfl, value', rfl, (Rp.mono S0.bM r_value), _, rfl, ?_⟩
    refine iteB (fun c1077 => ?_) (fun c1077 => ?_)
    · have hw := cW_pos c1077 hw
      refine ⟨_, rfl, _, _, _, rfl, (S0.bM _ _ h_p_fmt), G, _, _, fmt', rfl, S0.sG, (hide_nil (S0.bM _ _ h_p_fmt)), cW_callN hw (fun v1078 hw H1079 e1080 => ?_) trivial⟩
      have S1081 := S0.same e1080
      refine ⟨_, rfl, _, _, rfl, rfl, _, rfl, ?_⟩
      refine iteD (fun c1082 => ?_) (fun c1082 => ?_)
      · have hw := cW_pos c1082 hw
        refine ⟨_, rfl, _, _, _, rfl, (S1081.bM _ _ h_p_fmt), G, _, _, fmt', rfl, S1081.sG, (hide_nil (S1081.bM _ _ h_p_fmt)), cW_callN hw (fun v1083 hw H1084 e1085 => ?_) trivial⟩
        have S1086 := S1081.same e1085
        refine ⟨_, _, rfl, rfl, _, rfl, ?_⟩
        refine iteN (fun c1087 => ?_) (fun c1087 => ?_)
        · have hw := cW_neg c1087 hw
          exact hE 3 (cW_er hw) _ S1086.b0
        · have hw := cW_pos c1087 hw
          refine ⟨(by show 0 ≤ sizeLine; decide), fun p1088 n1089 => ?_⟩
          generalize g1090 : upd H1084 p1088 _ = H1091
          obtain ⟨e1092, h1093⟩ := gen_new n1089 g1090
          have h1094 : H1091 p1088 = some (.lst ([])) := h1093
          have fr1095 := S1086.free n1089
          have S1096 := S1086.new n1089 e1092 h1094 fr1095
          have w1097 : OwAll G H1091 ([] : List Addr) ([]) ((([] : (List (List (List Int)))) : (List (List (List Int)))).map (oL (oL oI))) := (OwAll.nil : OwAll _ _ [] [] (([] : List (List (List Int))).map (oL (oL oI))))
          refine ⟨_, rfl, rfl, rfl, G, _, _, fmt', rfl, S1096.sG, (hide_nil (S1096.bM _ _ h_p_fmt)), cW_call hw (fun v1098 hw p1101 vs1102 H1099 G1103 n1104 e1100 eG1105 sG1106 hn1107 gp1108 h1109 d1110 => ?_) (fun e he H2 e2 => hE e he H2 (Same.trans S1096.b0 e2))⟩
          have fr1112 := S1096.free n1104
          have S1111 := S1096.stepnew e1100 eG1105 sG1106 hn1107 n1104 h1109 gp1108 fr1112
          obtain ⟨K1114, hK1115, hw⟩ := cW_push hw
          refine ⟨_, rfl, ⟨_, (SqL.of h1109)⟩, for_list (K := K) (a := p1101) (xs := vs1102) (fun i σ H' => ∃ (frame_1116 : (List (List (List Int)))) (vs1117 : List V) (L1118 : List Addr) (u1119 : Option V) (u1120 : Option V) (G' : Hp), σ = [some (V.ref p_fmt), some (v_value), some (V.int (v1078)), some (V.ref p1088), u1119, u1120, none] ∧ Same G1103 G' ∧ Sep [] H G G' H' (p1088 :: (p1101 :: (L1118 ++ []))) ∧ H' p1088 = some (.lst (vs1117)) ∧ H' p1101 = some (.lst (vs1102)) ∧ (∀ b ∈ L1118, b ≠ p1088) ∧ (∀ b ∈ L1118, b ≠ p1101) ∧ OwAll G' H' L1118 (vs1117) ((frame_1116 : (List (List (List Int)))).map (oL (oL oI))) ∧ cW (forS (List.drop i (v1098)) frame_1116 (fun s x => F_flat_frame_b1 (v1078) s x)) K1114 EE) ?_ ?_ ?_ ?_⟩
          · have h1121 := (e1100 _ _ h1094)
            have w1122 : OwAll G1103 H1099 ([] : List Addr) ([]) ((([] : (List (List (List Int)))) : (List (List (List Int)))).map (oL (oL oI))) := (OwAll.mono eG1105 keeps_refl (OwAll.mono (Same.refl _) (keeps_same e1100) w1097))
            exact ⟨(([] : (List (List (List Int))))), ([]), ([] : List Addr), _, _, _, rfl, (Same.refl _), (S1111.sub (all_cons (.tail _ (.head _)) (all_cons (.head _) (all_app all_nil all_nil)))), h1121, h1109, all_nil, all_nil, w1122, hw⟩
          · intro i σ H1123 _ hw
            obtain ⟨frame_1116, vs1117, L1118, u1119, u1120, G1130, rfl, eG1131, S1124, h1125, h1126, ne1127, ne1128, w1129, hw⟩ := hw
            exact (SqL.of h1126)
          · intro i x σ H1132 hj hw
            obtain ⟨frame_1116, vs1117, L1118, u1119, u1120, G1139, rfl, eG1140, S1133, h1134, h1135, ne1136, ne1137, w1138, hw⟩ := hw
            obtain ⟨x1141, hx, r1142⟩ := RpAll.get (RpAll.mono eG1140 d1110) hj
            obtain ⟨a1143, v1145, v1146, rfl, h1144, r1147, r1148⟩ := rp_tup2 r1142
            obtain rfl := rp_int r1147
            obtain rfl := rp_int r1148
            have hw := cW_forS hx hw
            have hw : cW (F_flat_frame_b1 (v1078) (frame_1116) (x1141)) _ EE := hw
            unfold F_flat_frame_b1 at hw
            obtain ⟨K1150, hK1151, hw⟩ := cW_name hw
            obtain ⟨g1153, hw⟩ := cW_grd hw
            obtain ⟨K1157, hK1158, hw⟩ := cW_push hw
            refine ⟨_, _, rfl, (SqT.of (S1133.sG _ _ h1144)), rfl, _, _, rfl, _, _, rfl, rfl, _, rfl, (.inl ⟨rfl, _, SqL.of h1134⟩), _, rfl, _, rfl, g1153.1, g1153.2, fun D1159 n1160 => lc_range (lo := 0) (n := Int.toNat (x1141.2)) (fun i H' => ∃ (G' : Hp) (acc1162 : (List (List Int))) (vs1163 : List V) (L1161 : List Addr), Same G1139 G' ∧ Sep [] H G G' H' (D1159 :: (L1161 ++ (p1088 :: (p1101 :: (L1118 ++ []))))) ∧ H' p1088 = some (.lst (vs1117)) ∧ H' p1101 = some (.lst (vs1102)) ∧ H' D1159 = some (.lst vs1163) ∧ OwAll G' H' L1118 (vs1117) ((frame_1116 : (List (List (List Int)))).map (oL (oL oI))) ∧ OwAll G' H' L1161 vs1163 ((acc1162 : (List (List Int))).map (oL oI)) ∧ (∀ b ∈ L1161, H1132 b = none) ∧ (∀ b ∈ L1161, b ≠ D1159) ∧ Same H1132 H' ∧ cW (mapA (List.drop i (rng (0) (Int.toNat (x1141.2)))) acc1162 (fun x => noEr (F_flat_frame_c2 (v1078) (x1141.1) x))) K1157 EE) ?_ ?_ ?_⟩
            · generalize g1164 : upd H1132 D1159 _ = H1165
              obtain ⟨e1166, h1167⟩ := gen_new n1160 g1164
              have fr1168 := S1133.free n1160
              have S1169 := S1133.new n1160 e1166 h1167 fr1168
              have h1170 := (e1166 _ _ h1134)
              have h1171 := (e1166 _ _ h1135)
              have w1172 : OwAll G1139 H1165 L1118 (vs1117) ((frame_1116 : (List (List (List Int)))).map (oL (oL oI))) := (OwAll.mono (Same.refl _) (keeps_same e1166) w1138)
              exact ⟨_, [], [], [], Same.refl _, (S1169.sub (all_cons (.head _) (all_app (L := []) all_nil (all_cons (.tail _ (.head _)) (all_cons (.tail _ (.tail _ (.head _))) (all_app ((fun b hb => (.tail _ (.tail _ (.tail _ (List.mem_append_left _ hb))))) : ∀ b ∈ L1118, b ∈ (D1159 :: (p1088 :: (p1101 :: (L1118 ++ []))))) all_nil)))))), h1170, h1171, h1167, w1172, OwAll.nil, all_nil, all_nil, e1166, hw⟩
            · intro i H1173 hi hw
              obtain ⟨G1176, acc1178, vs1179, L1181, eG1177, S1174, h1185, h1186, h1175, w1187, d1180, nb1182, nd1183, eo1184, hw⟩ := hw
              obtain ⟨z1188, hw⟩ := cW_mapA (rng_get hi) hw
              generalize (0 + (i : Int)) = x1189 at hw ⊢
              have hw := cW_noEr hw
              have hw : cW (F_flat_frame_c2 (v1078) (x1141.1) (x1189)) _ (fun _ => False) := hw
              unfold F_flat_frame_c2 at hw
              refine ⟨rfl, ?_⟩
              refine tyes_go ?_
              refine ⟨_, rfl, (by show 1 ≤ sizeLine; decide), fun p1191 n1192 => ?_⟩
              generalize g1193 : upd H1173 p1191 _ = H1194
              obtain ⟨e1195, h1196⟩ := gen_new n1192 g1193
              have h1197 : H1194 p1191 = some (.lst (([v1078] : (List Int)).map V.int)) := h1196
              have fr1198 := S1174.free n1192
              have S1199 := S1174.new n1192 e1195 h1197 fr1198
              obtain ⟨g1200, hw⟩ := cW_grd hw
              refine ⟨_, rfl, _, _, _, rfl, rfl, h1197, g1200.1, g1200.2.1, (rep_lenM g1200.2.2), fun p1201 n1202 => ?_⟩
              generalize g1203 : upd H1194 p1201 _ = H1204
              obtain ⟨e1205, h1206⟩ := gen_new n1202 g1203
              have h1207 : H1204 p1201 = some (.lst ((repL ([v1078]) (x1141.1) : (List Int)).map V.int)) := rep_map h1206
              have fr1208 := S1199.free n1202
              have S1209 := S1199.new n1202 e1205 h1207 fr1208
              have w1210 : OwAll G1176 H1204 L1181 (vs1179) ((acc1178 : (List (List Int))).map (oL oI)) := (OwAll.mono (Same.refl _) (keeps_same e1205) (OwAll.mono (Same.refl _) (keeps_same e1195) d1180))
              have h1211 := (e1205 _ _ (e1195 _ _ h1175))
              refine ⟨_, h1211, (app_len (OwAll.rpA w1210 (encO_L encO_I) S1209.sG) z1188), ?_⟩
              generalize g1212 : upd H1204 D1159 _ = H1213
              obtain ⟨x1214, h1215⟩ := gen_mut g1212
              have S1216 := S1209.mut1 x1214 (.tail _ (.tail _ (.head _))) h1215
              have hw := cW_ok hw
              have h1217 := (x1214 _ _ (e1205 _ _ (e1195 _ _ h1185)) (ne_of_none h1134 n1160))
              have h1218 := (x1214 _ _ (e1205 _ _ (e1195 _ _ h1186)) (ne_of_none h1135 n1160))
              have w1219 : OwAll G1176 H1213 L1118 (vs1117) ((frame_1116 : (List (List (List Int)))).map (oL (oL oI))) := (OwAll.mono (Same.refl _) (keeps_mut x1214 ((there_ne (fun b_ hb_ => (S1133.ow b_ (((fun b hb => (.tail _ (.tail _ (List.mem_append_left _ hb)))) : ∀ b ∈ L1118, b ∈ (p1088 :: (p1101 :: (L1118 ++ [])))) b_ hb_)).2.1) n1160) : ∀ b ∈ L1118, b ≠ D1159)) (OwAll.mono (Same.refl _) (keeps_same e1205) (OwAll.mono (Same.refl _) (keeps_same e1195) w1187)))
              exact ⟨_, (acc1178 ++ [repL ([v1078]) (x1141.1)]), _, (L1181 ++ (p1201 :: ([] : List Addr))), eG1177, (S1216.sub (all_cons (.tail _ (.tail _ (.head _))) (all_app (all_app ((fun b hb => (.tail _ (.tail _ (.tail _ (List.mem_append_left _ hb))))) : ∀ b ∈ L1181, b ∈ (p1201 :: (p1191 :: (D1159 :: (L1181 ++ (p1088 :: (p1101 :: (L1118 ++ [])))))))) (all_cons (.head _) all_nil)) (all_cons (.tail _ (.tail _ (.tail _ (List.mem_append_right _ (.head _))))) (all_cons (.tail _ (.tail _ (.tail _ (List.mem_append_right _ (.tail _ (.head _)))))) (all_app ((fun b hb => (.tail _ (.tail _ (.tail _ (List.mem_append_right _ (.tail _ (.tail _ (List.mem_append_left _ hb)))))))) : ∀ b ∈ L1118, b ∈ (p1201 :: (p1191 :: (D1159 :: (L1181 ++ (p1088 :: (p1101 :: (L1118 ++ [])))))))) all_nil)))))), h1217, h1218, h1215, w1219, (OwAll.mono (Same.refl _) (keeps_mut x1214 ((all_app nd1183 (all_cons (ne_of_none (e1195 _ _ h1175) n1202).symm all_nil)) : ∀ b ∈ (L1181 ++ (p1201 :: ([] : List Addr))), b ≠ D1159)) (OwAll.snocM w1210 (Ow.ints h1207) ((fun b hb => (nm_cons ((there_ne (fun b_ hb_ => (S1199.ow b_ (((fun b hb => (.tail _ (.tail _ (List.mem_append_left _ hb)))) : ∀ b ∈ L1181, b ∈ (p1191 :: (D1159 :: (L1181 ++ (p1088 :: (p1101 :: (L1118 ++ []))))))) b_ hb_)).2.1) n1202) b hb) nm_nil)) : ∀ b ∈ L1181, b ∉ (p1201 :: ([] : List Addr))))), ((all_app nb1182 (all_cons (none_of_same (Same.trans eo1184 e1195) n1202) all_nil)) : ∀ b ∈ (L1181 ++ (p1201 :: ([] : List Addr))), H1132 b = none), ((all_app nd1183 (all_cons (ne_of_none (e1195 _ _ h1175) n1202).symm all_nil)) : ∀ b ∈ (L1181 ++ (p1201 :: ([] : List Addr))), b ≠ D1159), (same_mut (Same.trans (Same.trans eo1184 e1195) e1205) x1214 n1160), hw⟩
            intro H1220 hw
            obtain ⟨G1223, acc1225, vs1226, L1228, eG1224, S1221, h1232, h1233, h1222, w1234, d1227, nb1229, nd1230, eo1231, hw⟩ := hw
            have hw := hK1158 _ (cW_mapA0 (rng_len _ _).symm hw)
            have fr1235 := S1133.free n1160
            obtain ⟨g1236, hw⟩ := cW_grd hw
            refine ⟨_, _, _, rfl, rfl, h1232, (app_len (OwAll.rpA w1234 (encO_L (encO_L encO_I)) S1221.sG) g1236), ?_⟩
            generalize g1237 : upd H1220 p1088 _ = H1238
            obtain ⟨x1239, h1240⟩ := gen_mut g1237
            have h1241 : H1238 p1088 = some (.lst (vs1117 ++ [V.ref D1159])) := h1240
            have S1242 := S1221.mut1 x1239 (.tail _ (List.mem_append_right _ (.head _))) h1241
            have w1243 : OwAll G1223 H1238 (L1118 ++ (D1159 :: L1228)) (vs1117 ++ [V.ref D1159]) (((frame_1116) ++ [acc1225] : (List (List (List Int)))).map (oL (oL oI))) := OwAll.mono (Same.refl _) (keeps_mut x1239 ((all_app ne1136 (all_cons (ne_of_none h1134 n1160).symm (new_ne2 nb1229 (S1133.ow _ (.head _)).2.1))) : ∀ b ∈ (L1118 ++ (D1159 :: L1228)), b ≠ p1088)) (OwAll.snocM w1234 (Ow.list h1222 d1227 (nd1230 : ∀ b ∈ L1228, b ≠ D1159)) ((fun b hb => (nm_cons ((there_ne (fun b_ hb_ => (S1133.ow b_ (((fun b hb => (.tail _ (.tail _ (List.mem_append_left _ hb)))) : ∀ b ∈ L1118, b ∈ (p1088 :: (p1101 :: (L1118 ++ [])))) b_ hb_)).2.1) n1160) b hb) ((nl_symm (new_nl nb1229 (fun b_ hb_ => (S1133.ow b_ (((fun b hb => (.tail _ (.tail _ (List.mem_append_left _ hb)))) : ∀ b ∈ L1118, b ∈ (p1088 :: (p1101 :: (L1118 ++ [])))) b_ hb_)).2.1))) b hb))) : ∀ b ∈ L1118, b ∉ (D1159 :: L1228)))
            have hw := cW_bnd hw
            have hw := cW_ok hw
            have hw := hK1151 _ hw
            have h1245 := (x1239 _ _ h1233 (ne_of_none h1094 n1104).symm)
            exact ⟨((frame_1116) ++ [acc1225]), (vs1117 ++ [V.ref D1159]), (L1118 ++ (D1159 :: L1228)), _, _, _, rfl, (Same.trans eG1140 eG1224), (S1242.sub (all_cons (.tail _ (List.mem_append_right _ (.head _))) (all_cons (.tail _ (List.mem_append_right _ (.tail _ (.head _)))) (all_app (all_app ((fun b hb => (.tail _ (List.mem_append_right _ (.tail _ (.tail _ (List.mem_append_left _ hb)))))) : ∀ b ∈ L1118, b ∈ (D1159 :: (L1228 ++ (p1088 :: (p1101 :: (L1118 ++ [])))))) (all_cons (.head _) ((fun b hb => (.tail _ (List.mem_append_left _ hb))) : ∀ b ∈ L1228, b ∈ (D1159 :: (L1228 ++ (p1088 :: (p1101 :: (L1118 ++ [])))))))) all_nil)))), h1241, h1245, (all_app ne1136 (all_cons (ne_of_none h1134 n1160).symm (new_ne2 nb1229 (S1133.ow _ (.head _)).2.1))), (all_app ne1137 (all_cons (ne_of_none h1135 n1160).symm (new_ne2 nb1229 (S1133.ow _ (.tail _ (.head _))).2.1))), w1243, hw⟩
          · intro σ H1246 hw
            obtain ⟨frame_1116, vs1117, L1118, u1119, u1120, G1253, rfl, eG1254, S1247, h1248, h1249, ne1250, ne1251, w1252, hw⟩ := hw
            have hw := hK1115 _ (cW_forS0 (by rw [(RpAll.mono eG1254 d1110).len, List.length_map]) hw)
            have hw : cW (F_flat_frame_r1  (frame_1116)) _ EE := hw
            unfold F_flat_frame_r1 at hw
            refine ⟨_, rfl, ?_⟩
            have hw := cW_ok hw
            exact hK0 _ hw _ _ _ _ _ fr1095 ((fun b hb => Sep.h0 S1247 (((fun b hb => (.tail _ (.tail _ (List.mem_append_left _ hb)))) : ∀ b ∈ L1118, b ∈ (p1088 :: (p1101 :: (L1118 ++ [])))) b hb) nm_nil) : ∀ b ∈ L1118, H b = none) (ne1250 : ∀ b ∈ L1118, b ≠ p1088) S1247.b0 S1247.g0 S1247.sG S1247.gn (S1247.ow _ (.head _)).1 ((fun b hb => (S1247.ow b (((fun b hb => (.tail _ (.tail _ (List.mem_append_left _ hb)))) : ∀ b ∈ L1118, b ∈ (p1088 :: (p1101 :: (L1118 ++ [])))) b hb)).1) : ∀ b ∈ L1118, G1253 b = none) h1248 w1252
      · have hw := cW_neg c1082 hw
        refine ⟨_, rfl, ?_⟩
        refine iteT ?_
        exact hE 3 (cW_er hw) _ S1081.b0
    · have hw := cW_negB c1077 hw
      obtain ⟨g1256, hw⟩ := cW_grd hw
      have r1257 : Rp (hideL [] H) v_value (PyData.int ((cI).dec (value'))) := rp_dcast cI g1256 r_value
      obtain rfl := rp_int r1257
      refine ⟨_, rfl, ?_⟩
      have hw := cW_bnd hw
      refine ⟨_, rfl, _, _, rfl, rfl, _, rfl, ?_⟩
      refine iteD (fun c1259 => ?_) (fun c1259 => ?_)
      · have hw := cW_pos c1259 hw
        refine ⟨_, rfl, _, _, _, rfl, (S0.bM _ _ h_p_fmt), G, _, _, fmt', rfl, S0.sG, (hide_nil (S0.bM _ _ h_p_fmt)), cW_callN hw (fun v1260 hw H1261 e1262 => ?_) trivial⟩
        have S1263 := S0.same e1262
        refine ⟨_, _, rfl, rfl, _, rfl, ?_⟩
        refine iteN (fun c1264 => ?_) (fun c1264 => ?_)
        · have hw := cW_neg c1264 hw
          exact hE 3 (cW_er hw) _ S1263.b0
        · have hw := cW_pos c1264 hw
          refine ⟨(by show 0 ≤ sizeLine; decide), fun p1265 n1266 => ?_⟩
          generalize g1267 : upd H1261 p1265 _ = H1268
          obtain ⟨e1269, h1270⟩ := gen_new n1266 g1267
          have h1271 : H1268 p1265 = some (.lst ([])) := h1270
          have fr1272 := S1263.free n1266
          have S1273 := S1263.new n1266 e1269 h1271 fr1272
          have w1274 : OwAll G H1268 ([] : List Addr) ([]) ((([] : (List (List (List Int)))) : (List (List (List Int)))).map (oL (oL oI))) := (OwAll.nil : OwAll _ _ [] [] (([] : List (List (List Int))).map (oL (oL oI))))
          refine ⟨_, rfl, rfl, rfl, G, _, _, fmt', rfl, S1273.sG, (hide_nil (S1273.bM _ _ h_p_fmt)), cW_call hw (fun v1275 hw p1278 vs1279 H1276 G1280 n1281 e1277 eG1282 sG1283 hn1284 gp1285 h1286 d1287 => ?_) (fun e he H2 e2 => hE e he H2 (Same.trans S1273.b0 e2))⟩
          have fr1289 := S1273.free n1281
          have S1288 := S1273.stepnew e1277 eG1282 sG1283 hn1284 n1281 h1286 gp1285 fr1289
          obtain ⟨K1291, hK1292, hw⟩ := cW_push hw
          refine ⟨_, rfl, ⟨_, (SqL.of h1286)⟩, for_list (K := K) (a := p1278) (xs := vs1279) (fun i σ H' => ∃ (frame_1293 : (List (List (List Int)))) (vs1294 : List V) (L1295 : List Addr) (u1296 : Option V) (u1297 : Option V) (G' : Hp), σ = [some (V.ref p_fmt), some (V.int (((cI).dec (value')))), some (V.int (((cI).dec (value')))), some (V.ref p1265), u1296, u1297, none] ∧ Same G1280 G' ∧ Sep [] H G G' H' (p1265 :: (p1278 :: (L1295 ++ []))) ∧ H' p1265 = some (.lst (vs1294)) ∧ H' p1278 = some (.lst (vs1279)) ∧ (∀ b ∈ L1295, b ≠ p1265) ∧ (∀ b ∈ L1295, b ≠ p1278) ∧ OwAll G' H' L1295 (vs1294) ((frame_1293 : (List (List (List Int)))).map (oL (oL oI))) ∧ cW (forS (List.drop i (v1275)) frame_1293 (fun s x => F_flat_frame_b3 (((cI).dec (value'))) s x)) K1291 EE) ?_ ?_ ?_ ?_⟩
          · have h1298 := (e1277 _ _ h1271)
            have w1299 : OwAll G1280 H1276 ([] : List Addr) ([]) ((([] : (List (List (List Int)))) : (List (List (List Int)))).map (oL (oL oI))) := (OwAll.mono eG1282 keeps_refl (OwAll.mono (Same.refl _) (keeps_same e1277) w1274))
            exact ⟨(([] : (List (List (List Int))))), ([]), ([] : List Addr), _, _, _, rfl, (Same.refl _), (S1288.sub (all_cons (.tail _ (.head _)) (all_cons (.head _) (all_app all_nil all_nil)))), h1298, h1286, all_nil, all_nil, w1299, hw⟩
          · intro i σ H1300 _ hw
            obtain ⟨frame_1293, vs1294, L1295, u1296, u1297, G1307, rfl, eG1308, S1301, h1302, h1303, ne1304, ne1305, w1306, hw⟩ := hw
            exact (SqL.of h1303)
          · intro i x σ H1309 hj hw
            obtain ⟨frame_1293, vs1294, L1295, u1296, u1297, G1316, rfl, eG1317, S1310, h1311, h1312, ne1313, ne1314, w1315, hw⟩ := hw
            obtain ⟨x1318, hx, r1319⟩ := RpAll.get (RpAll.mono eG1317 d1287) hj
            obtain ⟨a1320, v1322, v1323, rfl, h1321, r1324, r1325⟩ := rp_tup2 r1319
            obtain rfl := rp_int r1324
            obtain rfl := rp_int r1325
            have hw := cW_forS hx hw
            have hw : cW (F_flat_frame_b3 (((cI).dec (value'))) (frame_1293) (x1318)) _ EE := hw
            unfold F_flat_frame_b3 at hw
            obtain ⟨K1327, hK1328, hw⟩ := cW_name hw
            obtain ⟨g1330, hw⟩ := cW_grd hw
            obtain ⟨K1334, hK1335, hw⟩ := cW_push hw
            refine ⟨_, _, rfl, (SqT.of (S1310.sG _ _ h1321)), rfl, _, _, rfl, _, _, rfl, rfl, _, rfl, (.inl ⟨rfl, _, SqL.of h1311⟩), _, rfl, _, rfl, g1330.1, g1330.2, fun D1336 n1337 => lc_range (lo := 0) (n := Int.toNat (x1318.2)) (fun i H' => ∃ (G' : Hp) (acc1339 : (List (List Int))) (vs1340 : List V) (L1338 : List Addr), Same G1316 G' ∧ Sep [] H G G' H' (D1336 :: (L1338 ++ (p1265 :: (p1278 :: (L1295 ++ []))))) ∧ H' p1265 = some (.lst (vs1294)) ∧ H' p1278 = some (.lst (vs1279)) ∧ H' D1336 = some (.lst vs1340) ∧ OwAll G' H' L1295 (vs1294) ((frame_1293 : (List (List (List Int)))).map (oL (oL oI))) ∧ OwAll G' H' L1338 vs1340 ((acc1339 : (List (List Int))).map (oL oI)) ∧ (∀ b ∈ L1338, H1309 b = none) ∧ (∀ b ∈ L1338, b ≠ D1336) ∧ Same H1309 H' ∧ cW (mapA (List.drop i (rng (0) (Int.toNat (x1318.2)))) acc1339 (fun x => noEr (F_flat_frame_c4 (((cI).dec (value'))) (x1318.1) x))) K1334 EE) ?_ ?_ ?_⟩
            · generalize g1341 : upd H1309 D1336 _ = H1342
              obtain ⟨e1343, h1344⟩ := gen_new n1337 g1341
              have fr1345 := S1310.free n1337
              have S1346 := S1310.new n1337 e1343 h1344 fr1345
              have h1347 := (e1343 _ _ h1311)
              have h1348 := (e1343 _ _ h1312)
              have w1349 : OwAll G1316 H1342 L1295 (vs1294) ((frame_1293 : (List (List (List Int)))).map (oL (oL oI))) := (OwAll.mono (Same.refl _) (keeps_same e1343) w1315)
              exact ⟨_, [], [], [], Same.refl _, (S1346.sub (all_cons (.head _) (all_app (L := []) all_nil (all_cons (.tail _ (.head _)) (all_cons (.tail _ (.tail _ (.head _))) (all_app ((fun b hb => (.tail _ (.tail _ (.tail _ (List.mem_append_left _ hb))))) : ∀ b ∈ L1295, b ∈ (D1336 :: (p1265 :: (p1278 :: (L1295 ++ []))))) all_nil)))))), h1347, h1348, h1344, w1349, OwAll.nil, all_nil, all_nil, e1343, hw⟩
            · intro i H1350 hi hw
              obtain ⟨G1353, acc1355, vs1356, L1358, eG1354, S1351, h1362, h1363, h1352, w1364, d1357, nb1359, nd1360, eo1361, hw⟩ := hw
              obtain ⟨z1365, hw⟩ := cW_mapA (rng_get hi) hw
              generalize (0 + (i : Int)) = x1366 at hw ⊢
              have hw := cW_noEr hw
              have hw : cW (F_flat_frame_c4 (((cI).dec (value'))) (x1318.1) (x1366)) _ (fun _ => False) := hw
              unfold F_flat_frame_c4 at hw
              refine ⟨rfl, ?_⟩
              refine tyes_go ?_
              refine ⟨_, rfl, (by show 1 ≤ sizeLine; decide), fun p1368 n1369 => ?_⟩
              generalize g1370 : upd H1350 p1368 _ = H1371
              obtain ⟨e1372, h1373⟩ := gen_new n1369 g1370
              have h1374 : H1371 p1368 = some (.lst (([((cI).dec (value'))] : (List Int)).map V.int)) := h1373
              have fr1375 := S1351.free n1369
              have S1376 := S1351.new n1369 e1372 h1374 fr1375
              obtain ⟨g1377, hw⟩ := cW_grd hw
              refine ⟨_, rfl, _, _, _, rfl, rfl, h1374, g1377.1, g1377.2.1, (rep_lenM g1377.2.2), fun p1378 n1379 => ?_⟩
              generalize g1380 : upd H1371 p1378 _ = H1381
              obtain ⟨e1382, h1383⟩ := gen_new n1379 g1380
              have h1384 : H1381 p1378 = some (.lst ((repL ([((cI).dec (value'))]) (x1318.1) : (List Int)).map V.int)) := rep_map h1383
              have fr1385 := S1376.free n1379
              have S1386 := S1376.new n1379 e1382 h1384 fr1385
              have w1387 : OwAll G1353 H1381 L1358 (vs1356) ((acc1355 : (List (List Int))).map (oL oI)) := (OwAll.mono (Same.refl _) (keeps_same e1382) (OwAll.mono (Same.refl _) (keeps_same e1372) d1357))
              have h1388 := (e1382 _ _ (e1372 _ _ h1352))
              refine ⟨_, h1388, (app_len (OwAll.rpA w1387 (encO_L encO_I) S1386.sG) z1365), ?_⟩
              generalize g1389 : upd H1381 D1336 _ = H1390
              obtain ⟨x1391, h1392⟩ := gen_mut g1389
              have S1393 := S1386.mut1 x1391 (.tail _ (.tail _ (.head _))) h1392
              have hw := cW_ok hw
              have h1394 := (x1391 _ _ (e1382 _ _ (e1372 _ _ h1362)) (ne_of_none h1311 n1337))
              have h1395 := (x1391 _ _ (e1382 _ _ (e1372 _ _ h1363)) (ne_of_none h1312 n1337))
              have w1396 : OwAll G1353 H1390 L1295 (vs1294) ((frame_1293 : (List (List (List Int)))).map (oL (oL oI))) := (OwAll.mono (Same.refl _) (keeps_mut x1391 ((there_ne (fun b_ hb_ => (S1310.ow b_ (((fun b hb => (.tail _ (.tail _ (List.mem_append_left _ hb)))) : ∀ b ∈ L1295, b ∈ (p1265 :: (p1278 :: (L1295 ++ [])))) b_ hb_)).2.1) n1337) : ∀ b ∈ L1295, b ≠ D1336)) (OwAll.mono (Same.refl _) (keeps_same e1382) (OwAll.mono (Same.refl _) (keeps_same e1372) w1364)))
              exact ⟨_, (acc1355 ++ [repL ([((cI).dec (value'))]) (x1318.1)]), _, (L1358 ++ (p1378 :: ([] : List Addr))), eG1354, (S1393.sub (all_cons (.tail _ (.tail _ (.head _))) (all_app (all_app ((fun b hb => (.tail _ (.tail _ (.tail _ (List.mem_append_left _ hb))))) : ∀ b ∈ L1358, b ∈ (p1378 :: (p1368 :: (D1336 :: (L1358 ++ (p1265 :: (p1278 :: (L1295 ++ [])))))))) (all_cons (.head _) all_nil)) (all_cons (.tail _ (.tail _ (.tail _ (List.mem_append_right _ (.head _))))) (all_cons (.tail _ (.tail _ (.tail _ (List.mem_append_right _ (.tail _ (.head _)))))) (all_app ((fun b hb => (.tail _ (.tail _ (.tail _ (List.mem_append_right _ (.tail _ (.tail _ (List.mem_append_left _ hb)))))))) : ∀ b ∈ L1295, b ∈ (p1378 :: (p1368 :: (D1336 :: (L1358 ++ (p1265 :: (p1278 :: (L1295 ++ [])))))))) all_nil)))))), h1394, h1395, h1392, w1396, (OwAll.mono (Same.refl _) (keeps_mut x1391 ((all_app nd1360 (all_cons (ne_of_none (e1372 _ _ h1352) n1379).symm all_nil)) : ∀ b ∈ (L1358 ++ (p1378 :: ([] : List Addr))), b ≠ D1336)) (OwAll.snocM w1387 (Ow.ints h1384) ((fun b hb => (nm_cons ((there_ne (fun b_ hb_ => (S1376.ow b_ (((fun b hb => (.tail _ (.tail _ (List.mem_append_left _ hb)))) : ∀ b ∈ L1358, b ∈ (p1368 :: (D1336 :: (L1358 ++ (p1265 :: (p1278 :: (L1295 ++ []))))))) b_ hb_)).2.1) n1379) b hb) nm_nil)) : ∀ b ∈ L1358, b ∉ (p1378 :: ([] : List Addr))))), ((all_app nb1359 (all_cons (none_of_same (Same.trans eo1361 e1372) n1379) all_nil)) : ∀ b ∈ (L1358 ++ (p1378 :: ([] : List Addr))), H1309 b = none), ((all_app nd1360 (all_cons (ne_of_none (e1372 _ _ h1352) n1379).symm all_nil)) : ∀ b ∈ (L1358 ++ (p1378 :: ([] : List Addr))), b ≠ D1336), (same_mut (Same.trans (Same.trans eo1361 e1372) e1382) x1391 n1337), hw⟩
            intro H1397 hw
            obtain ⟨G1400, acc1402, vs1403, L1405, eG1401, S1398, h1409, h1410, h1399, w1411, d1404, nb1406, nd1407, eo1408, hw⟩ := hw
            have hw := hK1335 _ (cW_mapA0 (rng_len _ _).symm hw)
            have fr1412 := S1310.free n1337
            obtain ⟨g1413, hw⟩ := cW_grd hw
            refine ⟨_, _, _, rfl, rfl, h1409, (app_len (OwAll.rpA w1411 (encO_L (encO_L encO_I)) S1398.sG) g1413), ?_⟩
            generalize g1414 : upd H1397 p1265 _ = H1415
            obtain ⟨x1416, h1417⟩ := gen_mut g1414
            have h1418 : H1415 p1265 = some (.lst (vs1294 ++ [V.ref D1336])) := h1417
            have S1419 := S1398.mut1 x1416 (.tail _ (List.mem_append_right _ (.head _))) h1418
            have w1420 : OwAll G1400 H1415 (L1295 ++ (D1336 :: L1405)) (vs1294 ++ [V.ref D1336]) (((frame_1293) ++ [acc1402] : (List (List (List Int)))).map (oL (oL oI))) := OwAll.mono (Same.refl _) (keeps_mut x1416 ((all_app ne1313 (all_cons (ne_of_none h1311 n1337).symm (new_ne2 nb1406 (S1310.ow _ (.head _)).2.1))) : ∀ b ∈ (L1295 ++ (D1336 :: L1405)), b ≠ p1265)) (OwAll.snocM w1411 (Ow.list h1399 d1404 (nd1407 : ∀ b ∈ L1405, b ≠ D1336)) ((fun b hb => (nm_cons ((there_ne (fun b_ hb_ => (S1310.ow b_ (((fun b hb => (.tail _ (.tail _ (List.mem_append_left _ hb)))) : ∀ b ∈ L1295, b ∈ (p1265 :: (p1278 :: (L1295 ++ [])))) b_ hb_)).2.1) n1337) b hb) ((nl_symm (new_nl nb1406 (fun b_ hb_ => (S1310.ow b_ (((fun b hb => (.tail _ (.tail _ (List.mem_append_left _ hb)))) : ∀ b ∈ L1295, b ∈ (p1265 :: (p1278 :: (L1295 ++ [])))) b_ hb_)).2.1))) b hb))) : ∀ b ∈ L1295, b ∉ (D1336 :: L1405)))
            have hw := cW_bnd hw
            have hw := cW_ok hw
            have hw := hK1328 _ hw
            have h1422 := (x1416 _ _ h1410 (ne_of_none h1271 n1281).symm)
            exact ⟨((frame_1293) ++ [acc1402]), (vs1294 ++ [V.ref D1336]), (L1295 ++ (D1336 :: L1405)), _, _, _, rfl, (Same.trans eG1317 eG1401), (S1419.sub (all_cons (.tail _ (List.mem_append_right _ (.head _))) (all_cons (.tail _ (List.mem_append_right _ (.tail _ (.head _)))) (all_app (all_app ((fun b hb => (.tail _ (List.mem_append_right _ (.tail _ (.tail _ (List.mem_append_left _ hb)))))) : ∀ b ∈ L1295, b ∈ (D1336 :: (L1405 ++ (p1265 :: (p1278 :: (L1295 ++ [])))))) (all_cons (.head _) ((fun b hb => (.tail _ (List.mem_append_left _ hb))) : ∀ b ∈ L1405, b ∈ (D1336 :: (L1405 ++ (p1265 :: (p1278 :: (L1295 ++ [])))))))) all_nil)))), h1418, h1422, (all_app ne1313 (all_cons (ne_of_none h1311 n1337).symm (new_ne2 nb1406 (S1310.ow _ (.head _)).2.1))), (all_app ne1314 (all_cons (ne_of_none h1312 n1337).symm (new_ne2 nb1406 (S1310.ow _ (.tail _ (.head _))).2.1))), w1420, hw⟩
          · intro σ H1423 hw
            obtain ⟨frame_1293, vs1294, L1295, u1296, u1297, G1430, rfl, eG1431, S1424, h1425, h1426, ne1427, ne1428, w1429, hw⟩ := hw
            have hw := hK1292 _ (cW_forS0 (by rw [(RpAll.mono eG1431 d1287).len, List.length_map]) hw)
            have hw : cW (F_flat_frame_r3  (frame_1293)) _ EE := hw
            unfold F_flat_frame_r3 at hw
            refine ⟨_, rfl, ?_⟩
            have hw := cW_ok hw
            exact hK0 _ hw _ _ _ _ _ fr1272 ((fun b hb => Sep.h0 S1424 (((fun b hb => (.tail _ (.tail _ (List.mem_append_left _ hb)))) : ∀ b ∈ L1295, b ∈ (p1265 :: (p1278 :: (L1295 ++ [])))) b hb) nm_nil) : ∀ b ∈ L1295, H b = none) (ne1427 : ∀ b ∈ L1295, b ≠ p1265) S1424.b0 S1424.g0 S1424.sG S1424.gn (S1424.ow _ (.head _)).1 ((fun b hb => (S1424.ow b (((fun b hb => (.tail _ (.tail _ (List.mem_append_left _ hb)))) : ∀ b ∈ L1295, b ∈ (p1265 :: (p1278 :: (L1295 ++ [])))) b hb)).1) : ∀ b ∈ L1295, G1430 b = none) h1425 w1429
      · have hw := cW_neg c1259 hw
        refine ⟨_, rfl, ?_⟩
        refine iteT ?_
        exact hE 3 (cW_er hw) _ S0.b0

abbrev N_middle_planes : List Str := ["fmt"]
theorem sc_middle_planes : FnScope N_middle_planes ["fmt"] (defScope s_middle_planes) := ⟨rfl, rfl, rfl, by decide +kernel, rfl, by decide +kernel, by decide +kernel⟩
theorem ok_middle_planes (D : DefX K mg "middle_planes" s_middle_planes ["fmt"] pats_middle_planes) (T : Txt w K mg AD) (c_pad_frame : CalX P w K mg base 7 "pad_frame" (sp_pad_frame K AD) pats_pad_frame) (c_flat_frame : CalX P w K mg base 6 "flat_frame" (sp_flat_frame K AD) pats_flat_frame) : CalX P w K mg base 8 "middle_planes" (sp_middle_planes K AD) pats_middle_planes := by
  refine D.ok sc_middle_planes (fun vs H Q E h => ?_) (fun f cdv A_ outer s H vs Q E hr h => ?_)
  · obtain ⟨G, p_fmt, dx_fmt, fmt', rfl, _⟩ := h
    rfl
  · obtain ⟨G, p_fmt, dx_fmt, fmt', rfl, sG, h_p_fmt, hw⟩ := h
    refine ⟨_, (pss_one (ps_ret (vx_callX c_pad_frame pat_pad_frame_0 (.head _) hr (by decide) (takes_of rfl rfl rfl rfl) rfl (pa_cons (pv 0) (pa_cons (vx_callX c_flat_frame pat_flat_frame_0 (.head _) hr (by decide) (takes_of rfl rfl rfl rfl) rfl (pa_cons (pv 0) pa_nil) pk_nil) pa_nil)) pk_nil))), ?_⟩
    obtain ⟨KK, EE, hK0, hE, hw⟩ := cW_gen hw
    have S0 := Sep.startG sG
    unfold F_middle_planes at hw
    refine ⟨_, rfl, _, rfl, rfl, rfl, G, _, _, fmt', _, (encN (())), rfl, S0.sG, (hide_nil (S0.bM _ _ h_p_fmt)), (Rp.hide_nil .non), cW_call hw (fun v1433 hw H1434 a1436 vs1437 L1438 G1439 n1440 nb1441 nd1442 e1435 eG1443 sG1444 hn1445 ga1446 gL1447 h1448 w1449 => ?_) (fun e he H2 e2 => hE e he H2 (Same.trans S0.b0 e2))⟩
    have fr1450 := S0.free n1440
    have S1451 : Sep _ _ _ _ H1434 (a1436 :: (L1438 ++ [])) := Sep.steptree S0 e1435 eG1443 sG1444 hn1445 (a1436 :: L1438) (all_cons ⟨n1440, ga1446, some_ne h1448⟩ (fun b hb => ⟨nb1441 b hb, gL1447 b hb, OwAll.there w1449 b hb⟩))
    refine ⟨rfl, rfl, G1439, _, _, fmt', _, _, rfl, S1451.sG, (hide_nil (S1451.bM _ _ h_p_fmt)), (Rp.hide_nil (rp_mk_list h1448 (OwAll.rpA w1449 (encO_L (encO_L encO_I)) S1451.sG))), cW_call hw (fun v1452 hw H1453 a1455 vs1456 L1457 G1458 n1459 nb1460 nd1461 e1454 eG1462 sG1463 hn1464 ga1465 gL1466 h1467 w1468 => ?_) (fun e he H2 e2 => hE e he H2 (Same.trans S1451.b0 e2))⟩
    have fr1469 := S1451.free n1459
    have S1470 : Sep _ _ _ _ H1453 (a1455 :: (L1457 ++ (a1436 :: (L1438 ++ [])))) := Sep.steptree S1451 e1454 eG1462 sG1463 hn1464 (a1455 :: L1457) (all_cons ⟨n1459, ga1465, some_ne h1467⟩ (fun b hb => ⟨nb1460 b hb, gL1466 b hb, OwAll.there w1468 b hb⟩))
    have hw := cW_ok hw
    exact hK0 _ hw _ _ _ _ _ fr1469 ((fun b hb => Sep.h0 S1470 (((fun b hb => (.tail _ (List.mem_append_left _ hb))) : ∀ b ∈ L1457, b ∈ (a1455 :: (L1457 ++ (a1436 :: (L1438 ++ []))))) b hb) nm_nil) : ∀ b ∈ L1457, H b = none) (nd1461 : ∀ b ∈ L1457, b ≠ a1455) S1470.b0 S1470.g0 S1470.sG S1470.gn (S1470.ow _ (.head _)).1 ((fun b hb => (S1470.ow b (((fun b hb => (.tail _ (List.mem_append_left _ hb))) : ∀ b ∈ L1457, b ∈ (a1455 :: (L1457 ++ (a1436 :: (L1438 ++ []))))) b hb)).1) : ∀ b ∈ L1457, G1458 b = none) h1467 w1468

abbrev N__check_numbers : List Str := ["settings", "header"]
theorem sc__check_numbers : FnScope N__check_numbers ["settings", "header"] (defScope s__check_numbers) := ⟨rfl, rfl, rfl, by decide +kernel, rfl, by decide +kernel, by decide +kernel⟩
theorem ok__check_numbers (D : DefX K mg "_check_numbers" s__check_numbers ["settings", "header"] pats__check_numbers) (T : Txt w K mg AD) (c__require : CalX P w K mg base 1 "_require" (sp__require K AD) pats__require) : CalX P w K mg base 2 "_check_numbers" (sp__check_numbers K AD) pats__check_numbers := by
  refine D.ok sc__check_numbers (fun vs H Q E h => ?_) (fun f cdv A_ outer s H vs Q E hr h => ?_)
  · obtain ⟨G, p_settings, p_settings_fmt, dx_settings, dx_settings_fmt, settings', p_header, l_header_store, l_header_refs, dx_header, header', rfl, _⟩ := h
    rfl
  · obtain ⟨G, p_settings, p_settings_fmt, dx_settings, dx_settings_fmt, settings', p_header, l_header_store, l_header_refs, dx_header, header', rfl, sG, h_p_settings, h_p_settings_fmt, h_p_header, h_l_header_store, h_l_header_refs, hw⟩ := h
    refine ⟨_, (C8.pss_cut (ps_expr (vx_callX c__require pat__require_0 (.head _) hr (by decide) (takes_of rfl rfl rfl rfl) rfl (pa_cons (pe_chain op_le op_le pe_int (fldK (K := K) (pv 1)) (C8.pe_gc rfl T.g_GREATEST_NUMBER)) (pa_cons pe_str pa_nil)) pk_nil))
      (C8.pss_cut (ps_expr (vx_callX c__require pat__require_0 (.head _) hr (by decide) (takes_of rfl rfl rfl rfl) rfl (pa_cons (pe_cmpR (op_inS (K := K)) (fldK (K := K) (pv 1)) (C8.pe_gc (v := V.ref AD.t_KINDS) rfl T.g_KINDS) (by with_unfolding_all rfl)) (pa_cons pe_str pa_nil)) pk_nil))
      (C8.pss_cut (ps_expr (vx_callX c__require pat__require_0 (.head _) hr (by decide) (takes_of rfl rfl rfl rfl) rfl (pa_cons (pe_chain op_le op_le pe_int (fldK (K := K) (pv 1)) (C8.pe_gc rfl T.g_GREATEST_LEVEL)) (pa_cons pe_str pa_nil)) pk_nil))
      (C8.pss_cut (ps_expr (vx_callX c__require pat__require_0 (.head _) hr (by decide) (takes_of rfl rfl rfl rfl) rfl (pa_cons (pe_chain op_le op_le pe_int (fldK (K := K) (pv 1)) pe_int) (pa_cons pe_str pa_nil)) pk_nil))
      (C8.pss_cut (ps_expr (vx_callX c__require pat__require_0 (.head _) hr (by decide) (takes_of rfl rfl rfl rfl) rfl (pa_cons (pe_or (pe_cmp (pc_eqI (fldK (K := K) (pv 1)) (C8.pe_gc rfl T.g_EVEN_WEIGHT))) (pe_one (pe_cmpR op_eq (fldK (K := K) (pv 1)) pe_str (nomark _)))) (pa_cons pe_str pa_nil)) pk_nil))
      (C8.pss_cut (ps_expr (vx_callX c__require pat__require_0 (.head _) hr (by decide) (takes_of rfl rfl rfl rfl) rfl (pa_cons (pe_chain op_le op_lt pe_int (fldK (K := K) (pv 1)) (fldK (K := K) (pv 0))) (pa_cons pe_str pa_nil)) pk_nil))
      (C8.pss_cut (ps_expr (vx_callX c__require pat__require_0 (.head _) hr (by decide) (takes_of rfl rfl rfl rfl) rfl (pa_cons (pe_chain op_le op_le (pe_un un_neg pe_int) (fldK (K := K) (pv 1)) pe_int) (pa_cons pe_str pa_nil)) pk_nil))
      (pss_one (ps_expr (vx_callX c__require pat__require_0 (.head _) hr (by decide) (takes_of rfl rfl rfl rfl) rfl (pa_cons (pe_or (pe_cmp (pc_eqI (fldK (K := K) (pv 1)) pe_int)) (pe_one (fldK (K := K) (pv 0)))) (pa_cons pe_str pa_nil)) pk_nil)))))))))), ?_⟩
    obtain ⟨KK, EE, hK0, hE, hw⟩ := cW_gen hw
    have S0 := Sep.startG sG
    unfold F__check_numbers at hw
    refine ⟨fun σ H' => ∃ (G' : Hp), σ = [some (V.ref p_settings), some (V.ref p_header)] ∧ Same G G' ∧ Sep [] H G G' H' [] ∧ cW (F__check_numbers_k1 (settings') (header') ) KK EE, ?_, ?_⟩
    · obtain ⟨K1473, hK1474, hw⟩ := cW_push hw
      refine ⟨_, rfl, _, _, _, _, _, rfl, (S0.bM _ _ h_p_header), T.cl_PictureHeader, T.n_PictureHeader_number, rfl, _, _, rfl, rfl, _, rfl, ?_⟩
      refine iteD (fun c1475 => ?_) (fun c1475 => ?_)
      · have hw := cW_pos c1475 hw
        refine ⟨_, _, rfl, rfl, rfl, rfl, G, _, _, rfl, S0.sG, cW_call hw (fun v1476 hw => ?_) (fun e he => hE e he _ S0.b0)⟩
        have hw := cW_ok hw
        have hw := hK1474 _ hw
        exact ⟨_, rfl, (Same.refl _), S0, hw⟩
      · have hw := cW_neg c1475 hw
        refine ⟨rfl, rfl, G, _, _, rfl, S0.sG, cW_call hw (fun v1477 hw => ?_) (fun e he => hE e he _ S0.b0)⟩
        have hw := cW_ok hw
        have hw := hK1474 _ hw
        exact ⟨_, rfl, (Same.refl _), S0, hw⟩
    · intro σ H1478 hw
      obtain ⟨G1480, rfl, eG1481, S1479, hw⟩ := hw
      unfold F__check_numbers_k1 at hw
      refine ⟨fun σ H' => ∃ (G' : Hp), σ = [some (V.ref p_settings), some (V.ref p_header)] ∧ Same G1480 G' ∧ Sep [] H G G' H' [] ∧ cW (F__check_numbers_k2 (settings') (header') ) KK EE, ?_, ?_⟩
      · obtain ⟨K1484, hK1485, hw⟩ := cW_push hw
        refine ⟨_, rfl, _, _, _, _, _, rfl, (S1479.bM _ _ h_p_header), T.cl_PictureHeader, T.n_PictureHeader_kind, rfl, _, _, ([("I" : Str), ("P" : Str), ("B" : Str)] : List Str), rfl, rfl, (.inr (T.ts_KINDS _)), rfl, rfl, G1480, _, _, rfl, S1479.sG, cW_call hw (fun v1486 hw => ?_) (fun e he => hE e he _ S1479.b0)⟩
        have hw := cW_ok hw
        have hw := hK1485 _ hw
        exact ⟨_, rfl, (Same.refl _), S1479, hw⟩
      · intro σ H1487 hw
        obtain ⟨G1489, rfl, eG1490, S1488, hw⟩ := hw
        unfold F__check_numbers_k2 at hw
        refine ⟨fun σ H' => ∃ (G' : Hp), σ = [some (V.ref p_settings), some (V.ref p_header)] ∧ Same G1489 G' ∧ Sep [] H G G' H' [] ∧ cW (F__check_numbers_k3 (settings') (header') ) KK EE, ?_, ?_⟩
        · obtain ⟨K1493, hK1494, hw⟩ := cW_push hw
          refine ⟨_, rfl, _, _, _, _, _, rfl, (S1488.bM _ _ h_p_header), T.cl_PictureHeader, T.n_PictureHeader_level, rfl, _, _, rfl, rfl, _, rfl, ?_⟩
          refine iteD (fun c1495 => ?_) (fun c1495 => ?_)
          · have hw := cW_pos c1495 hw
            refine ⟨_, _, rfl, rfl, rfl, rfl, G1489, _, _, rfl, S1488.sG, cW_call hw (fun v1496 hw => ?_) (fun e he => hE e he _ S1488.b0)⟩
            have hw := cW_ok hw
            have hw := hK1494 _ hw
            exact ⟨_, rfl, (Same.refl _), S1488, hw⟩
          · have hw := cW_neg c1495 hw
            refine ⟨rfl, rfl, G1489, _, _, rfl, S1488.sG, cW_call hw (fun v1497 hw => ?_) (fun e he => hE e he _ S1488.b0)⟩
            have hw := cW_ok hw
            have hw := hK1494 _ hw
            exact ⟨_, rfl, (Same.refl _), S1488, hw⟩
        · intro σ H1498 hw
          obtain ⟨G1500, rfl, eG1501, S1499, hw⟩ := hw
          unfold F__check_numbers_k3 at hw
          refine ⟨fun σ H' => ∃ (G' : Hp), σ = [some (V.ref p_settings), some (V.ref p_header)] ∧ Same G1500 G' ∧ Sep [] H G G' H' [] ∧ cW (F__check_numbers_k4 (settings') (header') ) KK EE, ?_, ?_⟩
          · obtain ⟨K1504, hK1505, hw⟩ := cW_push hw
            refine ⟨_, rfl, _, _, _, _, _, rfl, (S1499.bM _ _ h_p_header), T.cl_PictureHeader, T.n_PictureHeader_weight, rfl, _, _, rfl, rfl, _, rfl, ?_⟩
            refine iteD (fun c1506 => ?_) (fun c1506 => ?_)
            · have hw := cW_pos c1506 hw
              refine ⟨_, _, rfl, rfl, rfl, rfl, G1500, _, _, rfl, S1499.sG, cW_call hw (fun v1507 hw => ?_) (fun e he => hE e he _ S1499.b0)⟩
              have hw := cW_ok hw
              have hw := hK1505 _ hw
              exact ⟨_, rfl, (Same.refl _), S1499, hw⟩
            · have hw := cW_neg c1506 hw
              refine ⟨rfl, rfl, G1500, _, _, rfl, S1499.sG, cW_call hw (fun v1508 hw => ?_) (fun e he => hE e he _ S1499.b0)⟩
              have hw := cW_ok hw
              have hw := hK1505 _ hw
              exact ⟨_, rfl, (Same.refl _), S1499, hw⟩
          · intro σ H1509 hw
            obtain ⟨G1511, rfl, eG1512, S1510, hw⟩ := hw
            unfold F__check_numbers_k4 at hw
            refine ⟨fun σ H' => ∃ (G' : Hp), σ = [some (V.ref p_settings), some (V.ref p_header)] ∧ Same G1511 G' ∧ Sep [] H G G' H' [] ∧ cW (F__check_numbers_k5 (settings') (header') ) KK EE, ?_, ?_⟩
            · obtain ⟨K1515, hK1516, hw⟩ := cW_push hw
              refine ⟨_, rfl, _, _, _, _, _, rfl, (S1510.bM _ _ h_p_header), T.cl_PictureHeader, T.n_PictureHeader_weight, rfl, _, _, rfl, rfl, _, rfl, ?_⟩
              refine iteB (fun c1517 => ?_) (fun c1517 => ?_)
              · have hw := cW_pos c1517 hw
                refine ⟨rfl, rfl, G1511, _, _, rfl, S1510.sG, cW_call hw (fun v1518 hw => ?_) (fun e he => hE e he _ S1510.b0)⟩
                have hw := cW_ok hw
                have hw := hK1516 _ hw
                exact ⟨_, rfl, (Same.refl _), S1510, hw⟩
              · have hw := cW_negB c1517 hw
                refine ⟨_, rfl, _, _, _, _, _, rfl, (S1510.bM _ _ h_p_header), T.cl_PictureHeader, T.n_PictureHeader_kind, rfl, rfl, rfl, rfl, G1511, _, _, rfl, S1510.sG, cW_call hw (fun v1519 hw => ?_) (fun e he => hE e he _ S1510.b0)⟩
                have hw := cW_ok hw
                have hw := hK1516 _ hw
                exact ⟨_, rfl, (Same.refl _), S1510, hw⟩
            · intro σ H1520 hw
              obtain ⟨G1522, rfl, eG1523, S1521, hw⟩ := hw
              unfold F__check_numbers_k5 at hw
              refine ⟨fun σ H' => ∃ (G' : Hp), σ = [some (V.ref p_settings), some (V.ref p_header)] ∧ Same G1522 G' ∧ Sep [] H G G' H' [] ∧ cW (F__check_numbers_k6 (settings') (header') ) KK EE, ?_, ?_⟩
              · obtain ⟨K1526, hK1527, hw⟩ := cW_push hw
                refine ⟨_, rfl, _, _, _, _, _, rfl, (S1521.bM _ _ h_p_header), T.cl_PictureHeader, T.n_PictureHeader_layer, rfl, _, _, rfl, rfl, _, rfl, ?_⟩
                refine iteD (fun c1528 => ?_) (fun c1528 => ?_)
                · have hw := cW_pos c1528 hw
                  refine ⟨_, rfl, _, _, _, _, _, rfl, (S1521.bM _ _ h_p_settings), T.cl_Settings, T.n_Settings_layers, rfl, _, _, rfl, rfl, rfl, rfl, G1522, _, _, rfl, S1521.sG, cW_call hw (fun v1529 hw => ?_) (fun e he => hE e he _ S1521.b0)⟩
                  have hw := cW_ok hw
                  have hw := hK1527 _ hw
                  exact ⟨_, rfl, (Same.refl _), S1521, hw⟩
                · have hw := cW_neg c1528 hw
                  refine ⟨rfl, rfl, G1522, _, _, rfl, S1521.sG, cW_call hw (fun v1530 hw => ?_) (fun e he => hE e he _ S1521.b0)⟩
                  have hw := cW_ok hw
                  have hw := hK1527 _ hw
                  exact ⟨_, rfl, (Same.refl _), S1521, hw⟩
              · intro σ H1531 hw
                obtain ⟨G1533, rfl, eG1534, S1532, hw⟩ := hw
                unfold F__check_numbers_k6 at hw
                refine ⟨fun σ H' => ∃ (G' : Hp), σ = [some (V.ref p_settings), some (V.ref p_header)] ∧ Same G1533 G' ∧ Sep [] H G G' H' [] ∧ cW (F__check_numbers_k7 (settings') (header') ) KK EE, ?_, ?_⟩
                · obtain ⟨K1537, hK1538, hw⟩ := cW_push hw
                  refine ⟨_, rfl, _, rfl, _, _, _, _, _, rfl, (S1532.bM _ _ h_p_header), T.cl_PictureHeader, T.n_PictureHeader_edge, rfl, _, _, rfl, rfl, _, rfl, ?_⟩
                  refine iteD (fun c1539 => ?_) (fun c1539 => ?_)
                  · have hw := cW_pos c1539 hw
                    refine ⟨_, _, rfl, rfl, rfl, rfl, G1533, _, _, rfl, S1532.sG, cW_call hw (fun v1540 hw => ?_) (fun e he => hE e he _ S1532.b0)⟩
                    have hw := cW_ok hw
                    have hw := hK1538 _ hw
                    exact ⟨_, rfl, (Same.refl _), S1532, hw⟩
                  · have hw := cW_neg c1539 hw
                    refine ⟨rfl, rfl, G1533, _, _, rfl, S1532.sG, cW_call hw (fun v1541 hw => ?_) (fun e he => hE e he _ S1532.b0)⟩
                    have hw := cW_ok hw
                    have hw := hK1538 _ hw
                    exact ⟨_, rfl, (Same.refl _), S1532, hw⟩
                · intro σ H1542 hw
                  obtain ⟨G1544, rfl, eG1545, S1543, hw⟩ := hw
                  unfold F__check_numbers_k7 at hw
                  refine ⟨_, rfl, _, _, _, _, _, rfl, (S1543.bM _ _ h_p_header), T.cl_PictureHeader, T.n_PictureHeader_edge, rfl, _, _, rfl, rfl, _, rfl, ?_⟩
                  refine iteB (fun c1546 => ?_) (fun c1546 => ?_)
                  · have hw := cW_pos c1546 hw
                    refine ⟨rfl, rfl, G1544, _, _, rfl, S1543.sG, cW_call hw (fun v1547 hw => ?_) (fun e he => hE e he _ S1543.b0)⟩
                    have hw := cW_ok hw
                    exact hK0 _ hw _ S1543.b0
                  · have hw := cW_negB c1546 hw
                    refine ⟨_, rfl, _, _, _, _, _, rfl, (S1543.bM _ _ h_p_settings), T.cl_Settings, T.n_Settings_deblock, rfl, rfl, rfl, G1544, _, _, rfl, S1543.sG, cW_call hw (fun v1548 hw => ?_) (fun e he => hE e he _ S1543.b0)⟩
                    have hw := cW_ok hw
                    exact hK0 _ hw _ S1543.b0

abbrev N__check_slots : List Str := ["settings", "header", "slot", "ascending", "counts"]
theorem sc__check_slots : FnScope N__check_slots ["settings", "header"] (defScope s__check_slots) := ⟨rfl, rfl, rfl, by decide +kernel, rfl, by decide +kernel, by decide +kernel⟩
theorem ok__check_slots (D : DefX K mg "_check_slots" s__check_slots ["settings", "header"] pats__check_slots) (T : Txt w K mg AD) (c__require : CalX P w K mg base 1 "_require" (sp__require K AD) pats__require) : CalX P w K mg base 2 "_check_slots" (sp__check_slots K AD) pats__check_slots := by
  refine D.ok sc__check_slots (fun vs H Q E h => ?_) (fun f cdv A_ outer s H vs Q E hr h => ?_)
  · obtain ⟨G, p_settings, p_settings_fmt, dx_settings, dx_settings_fmt, settings', p_header, l_header_store, l_header_refs, dx_header, header', rfl, _⟩ := h
    rfl
  · obtain ⟨G, p_settings, p_settings_fmt, dx_settings, dx_settings_fmt, settings', p_header, l_header_store, l_header_refs, dx_header, header', rfl, sG, h_p_settings, h_p_settings_fmt, h_p_header, h_l_header_store, h_l_header_refs, hw⟩ := h
    refine ⟨_, (pss_cons (ps_for (passes_of rfl) rfl (pi_listK (K := K) (pe_op op_cat (fldK (K := K) (pv 1)) (fldK (K := K) (pv 1)))) (pg_name (i := 2) sc__check_slots.nd rfl (Or.inl rfl)) (pss_one (ps_expr (vx_callX c__require pat__require_0 (.head _) hr (by decide) (takes_of rfl rfl rfl rfl) rfl (pa_cons (pe_chain op_le op_lt pe_int (pv 2) (fldK (K := K) (pv 0))) (pa_cons pe_str pa_nil)) pk_nil))))
      (pss_cons (ps_set (i := 3) sc__check_slots.nd rfl (Or.inl rfl) (pe_callB (cr_sortSet (w := w) rfl) (by rfl) T.b_sorted (by decide +kernel) (pa_cons (pe_callTy (cr_setI (K := K) (w := w) rfl) (by rfl) T.b_set (by decide +kernel) (pa_cons (fldK (K := K) (pv 1)) pa_nil)) pa_nil)))
      (pss_cons (ps_expr (vx_callX c__require pat__require_0 (.head _) hr (by decide) (takes_of rfl rfl rfl rfl) rfl (pa_cons (pe_cmpR (op_eqT (encOk_L encOk_int) hr.units) (fldK (K := K) (pv 1)) (pv 3) (nomark _)) (pa_cons pe_str pa_nil)) pk_nil))
      (pss_cons (ps_set (i := 4) sc__check_slots.nd rfl (Or.inl rfl) (pe_ix (ix_DA (w := w) (K := K)) (C8.pe_gc (v := V.ref AD.t_REF_COUNTS) rfl T.g_REF_COUNTS) (fldK (K := K) (pv 1)) (fun _ _ => rfl)))
      (pss_one (ps_expr (vx_callX c__require pat__require_0 (.head _) hr (by decide) (takes_of rfl rfl rfl rfl) rfl (pa_cons (pe_cmpR (op_inI (K := K)) (pe_callB (call_lenLiK (K := K)) (by rfl) T.b_len (by decide +kernel) (pa_cons (fldK (K := K) (pv 1)) pa_nil)) (pv 4) (by with_unfolding_all rfl)) (pa_cons pe_str pa_nil)) pk_nil))))))), ?_⟩
    obtain ⟨KK, EE, hK0, hE, hw⟩ := cW_gen hw
    have S0 := Sep.startG sG
    unfold F__check_slots at hw
    obtain ⟨g1549, hw⟩ := cW_grd hw
    refine ⟨_, rfl, _, _, _, _, _, rfl, (S0.bM _ _ h_p_header), T.cl_PictureHeader, T.n_PictureHeader_store, rfl, _, rfl, _, _, _, _, _, rfl, (S0.bM _ _ h_p_header), T.cl_PictureHeader, T.n_PictureHeader_refs, rfl, _, _, _, _, rfl, rfl, (S0.bM _ _ h_l_header_store), (S0.bM _ _ h_l_header_refs), (cat_lenM g1549), fun p1550 n1551 => ?_⟩
    generalize g1552 : upd H p1550 _ = H1553
    obtain ⟨e1554, h1555⟩ := gen_new n1551 g1552
    have h1556 : H1553 p1550 = some (.lst (((header'.store) ++ (header'.refs) : (List Int)).map V.int)) := cat_map h1555
    have fr1557 := S0.free n1551
    have S1558 := S0.new n1551 e1554 h1556 fr1557
    obtain ⟨K1561, hK1562, hw⟩ := cW_push hw
    refine ⟨_, rfl, ⟨_, (SqL.of h1556)⟩, for_list (K := K) (a := p1550) (xs := ((header'.store) ++ (header'.refs) : (List Int)).map V.int) (fun i σ H' => ∃ (u1563 : Option V) (G' : Hp), σ = [some (V.ref p_settings), some (V.ref p_header), u1563, none, none] ∧ Same G G' ∧ Sep [] H G G' H' [p1550] ∧ H' p1550 = some (.lst (((header'.store) ++ (header'.refs) : (List Int)).map V.int)) ∧ cW (forS (List.drop i ((header'.store) ++ (header'.refs))) () (fun s x => F__check_slots_b1 (settings')  x)) K1561 EE) ?_ ?_ ?_ ?_⟩
    · exact ⟨_, _, rfl, (Same.refl _), S1558, h1556, hw⟩
    · intro i σ H1564 _ hw
      obtain ⟨u1563, G1567, rfl, eG1568, S1565, h1566, hw⟩ := hw
      exact (SqL.of h1566)
    · intro i x σ H1569 hj hw
      obtain ⟨u1563, G1572, rfl, eG1573, S1570, h1571, hw⟩ := hw
      obtain ⟨x1574, hx, rfl⟩ := map_get hj
      have hw := cW_forS hx hw
      have hw : cW (F__check_slots_b1 (settings')  (x1574)) _ EE := hw
      unfold F__check_slots_b1 at hw
      obtain ⟨K1575, hK1576, hw⟩ := cW_name hw
      refine vv_chain (ta := (tC (V.int 0))) (tb := (tVar 2)) (tc := (tFld K (tVar 0) "slots")) (r := (rI0 fun i j => V.bl (decide (i ≤ j)))) (r' := (rI0 fun i j => V.bl (decide (i < j)))) (x := V.int (0)) (y := V.int (x1574)) (z := V.int (settings'.slots)) (a := decide (0 ≤ x1574)) (b := decide (x1574 < settings'.slots)) ?hx1578 ?hy1579 ?hz1580 (fun Q q => ⟨_, _, rfl, rfl, q⟩) (fun Q q => ⟨_, _, rfl, rfl, q⟩) _ ?_
      case hx1578 => exact val_c
      case hy1579 => exact (val_var rfl)
      case hz1580 => exact (val_fld (val_var rfl) (S1570.bM _ _ h_p_settings) T.cl_Settings T.n_Settings_slots rfl)
      refine ⟨rfl, rfl, G1572, _, _, rfl, S1570.sG, cW_call hw (fun v1581 hw => ?_) (fun e he => hE e he _ S1570.b0)⟩
      have hw := cW_ok hw
      have hw := hK1576 _ hw
      exact ⟨_, _, rfl, eG1573, S1570, h1571, hw⟩
    · intro σ H1582 hw
      obtain ⟨u1563, G1585, rfl, eG1586, S1583, h1584, hw⟩ := hw
      have hw := hK1562 _ (cW_forS0 (by rw [List.length_map]) hw)
      have hw : cW (F__check_slots_r1 (header') ) _ EE := hw
      unfold F__check_slots_r1 at hw
      obtain ⟨g1587, hw⟩ := cW_grd hw
      refine ⟨_, rfl, _, _, _, _, _, rfl, (S1583.bM _ _ h_p_header), T.cl_PictureHeader, T.n_PictureHeader_store, rfl, _, _, rfl, (SqL.of (S1583.bM _ _ h_l_header_store)), g1587, fun p1588 n1589 n1590 n1591 => ⟨_, _, n1589, rfl, upd_same, Nat.le_trans n1590 g1587, ?_⟩⟩
      refine fun ns1592 p1593 pw1594 mm1595 n1596 => ?_
      generalize g1597 : upd (upd H1582 p1588 _) p1593 _ = H1598
      obtain ⟨e1599, h1600, n1601⟩ := gen_new2 n1591 n1596 g1597
      obtain rfl := sortSet_of pw1594 mm1595
      have h1602 : H1598 p1593 = some (.lst (((sortSet (header'.store)) : (List Int)).map V.int)) := h1600
      have fr1603 := S1583.free n1601
      have S1604 := S1583.new n1601 e1599 h1602 fr1603
      refine ⟨_, rfl, _, _, _, _, _, rfl, (S1604.bM _ _ h_p_header), T.cl_PictureHeader, T.n_PictureHeader_store, rfl, _, rfl, _, _, (rp_mk_ints (S1604.bM _ _ h_l_header_store)), (rp_mk_ints h1602), rfl, rfl, G1585, _, _, rfl, S1604.sG, cW_call hw (fun v1605 hw => ?_) (fun e he => hE e he _ S1604.b0)⟩
      obtain ⟨g1606, hw⟩ := cW_grd hw
      refine ⟨_, rfl, _, _, _, _, _, rfl, (S1604.bM _ _ h_p_header), T.cl_PictureHeader, T.n_PictureHeader_kind, rfl, _, _, ([("I", AD.t_REF_COUNTS_0), ("P", AD.t_REF_COUNTS_1), ("B", AD.t_REF_COUNTS_2)] : List (Str × Addr)), _, rfl, rfl, T.kd_REF_COUNTS, (lookG_at (T.th_REF_COUNTS _ g1606)), _, rfl, _, _, _, _, _, rfl, (S1604.bM _ _ h_p_header), T.cl_PictureHeader, T.n_PictureHeader_refs, rfl, _, _, rfl, (SqL.of (S1604.bM _ _ h_l_header_refs)), _, rfl, _, _, ((dictG ([("I", [0]), ("P", [1, 2]), ("B", [2])] : List (Str × List Int)) (header'.kind)) : List Int), rfl, rfl, (.inr ((T.tt_REF_COUNTS _ g1606) _)), rfl, rfl, G1585, _, _, rfl, S1604.sG, cW_call hw (fun v1607 hw => ?_) (fun e he => hE e he _ S1604.b0)⟩
      have hw := cW_ok hw
      exact hK0 _ hw _ S1604.b0

abbrev N_PictureHeader___init__ : List Str := ["self", "settings", "number", "kind", "level", "store", "refs", "weight", "layer", "shown", "edge"]
theorem sc_PictureHeader___init__ : FnScope N_PictureHeader___init__ ["self", "settings", "number", "kind", "level", "store", "refs", "weight", "layer", "shown", "edge"] (defScope s_PictureHeader___init__) := ⟨rfl, rfl, rfl, by decide +kernel, rfl, by decide +kernel, by decide +kernel⟩
theorem ok_PictureHeader___init__ (D : InitX K mg AD.c_PictureHeader "PictureHeader" "PictureHeader.__init__" s_PictureHeader___init__ ["self", "settings", "number", "kind", "level", "store", "refs", "weight", "layer", "shown", "edge"] (pats_PictureHeader___init__ AD)) (T : Txt w K mg AD) (c__check_numbers : CalX P w K mg base 2 "_check_numbers" (sp__check_numbers K AD) pats__check_numbers) (c__check_slots : CalX P w K mg base 2 "_check_slots" (sp__check_slots K AD) pats__check_slots) : MakX P w K mg base 3 "PictureHeader" AD.c_PictureHeader (sp_PictureHeader___init__ K AD) (pats_PictureHeader___init__ AD) := by
  refine D.ok sc_PictureHeader___init__ (fun vs H Q E h => ?_) (fun f cdv A_ outer s H vs Q E hr h => ?_)
  · obtain ⟨G, p_self, dx_self, p_settings, p_settings_fmt, dx_settings, dx_settings_fmt, settings', number', kind', level', v_store, store', v_refs, refs', weight', layer', shown', edge', rfl, _⟩ := h
    rfl
  · obtain ⟨G, p_self, dx_self, p_settings, p_settings_fmt, dx_settings, dx_settings_fmt, settings', number', kind', level', v_store, store', v_refs, refs', weight', layer', shown', edge', rfl, sG, gM, h_self, h_p_settings, h_p_settings_fmt, r_store, r_refs, hw⟩ := h
    refine ⟨_, (pss_cons (ps_fld (pv 0) (pv 2) rfl)
      (pss_cons (ps_fld (pv 0) (pv 3) rfl)
      (pss_cons (ps_fld (pv 0) (pv 4) rfl)
      (pss_cons (ps_fld (pv 0) (pe_callTy (call_listSI (K := K)) (by rfl) T.b_list (by decide +kernel) (pa_cons (pv 5) pa_nil)) rfl)
      (pss_cons (ps_fld (pv 0) (pe_callTy (call_listSI (K := K)) (by rfl) T.b_list (by decide +kernel) (pa_cons (pv 6) pa_nil)) rfl)
      (pss_cons (ps_fld (pv 0) (pv 7) rfl)
      (pss_cons (ps_fld (pv 0) (pv 8) rfl)
      (pss_cons (ps_fld (pv 0) (pv 9) rfl)
      (pss_cons (ps_fld (pv 0) (pv 10) rfl)
      (pss_cons (ps_expr (vx_callX c__check_numbers pat__check_numbers_0 (.head _) hr (by decide) (takes_of rfl rfl rfl rfl) rfl (pa_cons (pv 1) (pa_cons (pv 0) pa_nil)) pk_nil))
      (pss_one (ps_expr (vx_callX c__check_slots pat__check_slots_0 (.head _) hr (by decide) (takes_of rfl rfl rfl rfl) rfl (pa_cons (pv 1) (pa_cons (pv 0) pa_nil)) pk_nil))))))))))))), ?_⟩
    obtain ⟨KK, EE, hK0, hE, hw⟩ := cW_gen hw
    have S0 := Sep.startM (M := [p_self]) sG (all_cons (some_ne h_self) all_nil) gM
    unfold F_PictureHeader___init__ at hw
    refine ⟨_, rfl, _, rfl, _, _, _, _, rfl, h_self, T.cl_PictureHeader, T.n_PictureHeader_number, (by show 0 < 1000; decide), ?_⟩
    generalize g1608 : upd H p_self _ = H1609
    obtain ⟨x1610, h1611⟩ := gen_mut g1608
    have h1612 : H1609 p_self = some (.ins AD.c_PictureHeader dx_self [("number", V.int (number'))]) := h1611
    have S1613 := S0.mut1 x1610 (.head _) h1612
    refine ⟨_, rfl, _, rfl, _, _, _, _, rfl, h1612, T.cl_PictureHeader, T.n_PictureHeader_kind, (by show 1 < 1000; decide), ?_⟩
    generalize g1614 : upd H1609 p_self _ = H1615
    obtain ⟨x1616, h1617⟩ := gen_mut g1614
    have h1618 : H1615 p_self = some (.ins AD.c_PictureHeader dx_self [("number", V.int (number')), ("kind", V.str (kind'))]) := h1617
    have S1619 := S1613.mut1 x1616 (.head _) h1618
    refine ⟨_, rfl, _, rfl, _, _, _, _, rfl, h1618, T.cl_PictureHeader, T.n_PictureHeader_level, (by show 2 < 1000; decide), ?_⟩
    generalize g1620 : upd H1615 p_self _ = H1621
    obtain ⟨x1622, h1623⟩ := gen_mut g1620
    have h1624 : H1621 p_self = some (.ins AD.c_PictureHeader dx_self [("number", V.int (number')), ("kind", V.str (kind')), ("level", V.int (level'))]) := h1623
    have S1625 := S1619.mut1 x1622 (.head _) h1624
    refine ⟨_, rfl, _, _, rfl, (SeqI.mono S1625.bM r_store), fun p1626 n1627 => ?_⟩
    generalize g1628 : upd H1621 p1626 _ = H1629
    obtain ⟨e1630, h1631⟩ := gen_new n1627 g1628
    have h1632 : H1629 p1626 = some (.lst ((store' : (List Int)).map V.int)) := h1631
    have fr1633 := S1625.free n1627
    have S1634 := S1625.new n1627 e1630 h1632 fr1633
    have h1635 := (e1630 _ _ h1624)
    refine ⟨_, rfl, _, _, _, _, rfl, h1635, T.cl_PictureHeader, T.n_PictureHeader_store, (by show 3 < 1000; decide), ?_⟩
    generalize g1636 : upd H1629 p_self _ = H1637
    obtain ⟨x1638, h1639⟩ := gen_mut g1636
    have h1640 : H1637 p_self = some (.ins AD.c_PictureHeader dx_self [("number", V.int (number')), ("kind", V.str (kind')), ("level", V.int (level')), ("store", V.ref p1626)]) := h1639
    have S1641 := S1634.mut1 x1638 (.tail _ (.head _)) h1640
    refine ⟨_, rfl, _, _, rfl, (SeqI.mono S1641.bM r_refs), fun p1642 n1643 => ?_⟩
    generalize g1644 : upd H1637 p1642 _ = H1645
    obtain ⟨e1646, h1647⟩ := gen_new n1643 g1644
    have h1648 : H1645 p1642 = some (.lst ((refs' : (List Int)).map V.int)) := h1647
    have fr1649 := S1641.free n1643
    have S1650 := S1641.new n1643 e1646 h1648 fr1649
    have h1651 := (e1646 _ _ h1640)
    refine ⟨_, rfl, _, _, _, _, rfl, h1651, T.cl_PictureHeader, T.n_PictureHeader_refs, (by show 4 < 1000; decide), ?_⟩
    generalize g1652 : upd H1645 p_self _ = H1653
    obtain ⟨x1654, h1655⟩ := gen_mut g1652
    have h1656 : H1653 p_self = some (.ins AD.c_PictureHeader dx_self [("number", V.int (number')), ("kind", V.str (kind')), ("level", V.int (level')), ("store", V.ref p1626), ("refs", V.ref p1642)]) := h1655
    have S1657 := S1650.mut1 x1654 (.tail _ (.tail _ (.head _))) h1656
    refine ⟨_, rfl, _, rfl, _, _, _, _, rfl, h1656, T.cl_PictureHeader, T.n_PictureHeader_weight, (by show 5 < 1000; decide), ?_⟩
    generalize g1658 : upd H1653 p_self _ = H1659
    obtain ⟨x1660, h1661⟩ := gen_mut g1658
    have h1662 : H1659 p_self = some (.ins AD.c_PictureHeader dx_self [("number", V.int (number')), ("kind", V.str (kind')), ("level", V.int (level')), ("store", V.ref p1626), ("refs", V.ref p1642), ("weight", V.int (weight'))]) := h1661
    have S1663 := S1657.mut1 x1660 (.tail _ (.tail _ (.head _))) h1662
    refine ⟨_, rfl, _, rfl, _, _, _, _, rfl, h1662, T.cl_PictureHeader, T.n_PictureHeader_layer, (by show 6 < 1000; decide), ?_⟩
    generalize g1664 : upd H1659 p_self _ = H1665
    obtain ⟨x1666, h1667⟩ := gen_mut g1664
    have h1668 : H1665 p_self = some (.ins AD.c_PictureHeader dx_self [("number", V.int (number')), ("kind", V.str (kind')), ("level", V.int (level')), ("store", V.ref p1626), ("refs", V.ref p1642), ("weight", V.int (weight')), ("layer", V.int (layer'))]) := h1667
    have S1669 := S1663.mut1 x1666 (.tail _ (.tail _ (.head _))) h1668
    refine ⟨_, rfl, _, rfl, _, _, _, _, rfl, h1668, T.cl_PictureHeader, T.n_PictureHeader_shown, (by show 7 < 1000; decide), ?_⟩
    generalize g1670 : upd H1665 p_self _ = H1671
    obtain ⟨x1672, h1673⟩ := gen_mut g1670
    have h1674 : H1671 p_self = some (.ins AD.c_PictureHeader dx_self [("number", V.int (number')), ("kind", V.str (kind')), ("level", V.int (level')), ("store", V.ref p1626), ("refs", V.ref p1642), ("weight", V.int (weight')), ("layer", V.int (layer')), ("shown", V.bl (shown'))]) := h1673
    have S1675 := S1669.mut1 x1672 (.tail _ (.tail _ (.head _))) h1674
    refine ⟨_, rfl, _, rfl, _, _, _, _, rfl, h1674, T.cl_PictureHeader, T.n_PictureHeader_edge, (by show 8 < 1000; decide), ?_⟩
    generalize g1676 : upd H1671 p_self _ = H1677
    obtain ⟨x1678, h1679⟩ := gen_mut g1676
    have h1680 : H1677 p_self = some (.ins AD.c_PictureHeader dx_self [("number", V.int (number')), ("kind", V.str (kind')), ("level", V.int (level')), ("store", V.ref p1626), ("refs", V.ref p1642), ("weight", V.int (weight')), ("layer", V.int (layer')), ("shown", V.bl (shown')), ("edge", V.int (edge'))]) := h1679
    have S1681 := S1675.mut1 x1678 (.tail _ (.tail _ (.head _))) h1680
    have h1682 := (x1678 _ _ (x1672 _ _ (x1666 _ _ (x1660 _ _ (x1654 _ _ (e1646 _ _ (x1638 _ _ h1632 (ne_of_none h1624 n1627).symm)) (ne_of_none h1624 n1627).symm) (ne_of_none h1624 n1627).symm) (ne_of_none h1624 n1627).symm) (ne_of_none h1624 n1627).symm) (ne_of_none h1624 n1627).symm)
    have h1683 := (x1678 _ _ (x1672 _ _ (x1666 _ _ (x1660 _ _ (x1654 _ _ h1648 (ne_of_none h1640 n1643).symm) (ne_of_none h1640 n1643).symm) (ne_of_none h1640 n1643).symm) (ne_of_none h1640 n1643).symm) (ne_of_none h1640 n1643).symm)
    refine ⟨_, rfl, _, rfl, rfl, rfl, G, _, _, _, _, settings', _, _, _, _, (⟨number', kind', level', store', refs', weight', layer', shown', edge'⟩ : St_PictureHeader), rfl, S1681.sG, (hide_nil (S1681.bM _ _ h_p_settings)), (hide_nil (S1681.bM _ _ h_p_settings_fmt)), (hide_nil h1680), (hide_nil h1682), (hide_nil h1683), cW_call hw (fun v1684 hw H1685 e1686 => ?_) (fun e he H2 e2 => hE e he H2 (fun b o h n => e2 _ _ ((sameX_of S1681.base) b o h n)))⟩
    have S1687 := S1681.same e1686
    have h1688 := (e1686 _ _ h1680)
    have h1689 := (e1686 _ _ h1682)
    have h1690 := (e1686 _ _ h1683)
    refine ⟨_, rfl, _, rfl, rfl, rfl, G, _, _, _, _, settings', _, _, _, _, (⟨number', kind', level', store', refs', weight', layer', shown', edge'⟩ : St_PictureHeader), rfl, S1687.sG, (hide_nil (S1687.bM _ _ h_p_settings)), (hide_nil (S1687.bM _ _ h_p_settings_fmt)), (hide_nil h1688), (hide_nil h1689), (hide_nil h1690), cW_call hw (fun v1691 hw H1692 e1693 => ?_) (fun e he H2 e2 => hE e he H2 (fun b o h n => e2 _ _ ((sameX_of S1687.base) b o h n)))⟩
    have S1694 := S1687.same e1693
    have h1695 := (e1693 _ _ h1688)
    have h1696 := (e1693 _ _ h1689)
    have h1697 := (e1693 _ _ h1690)
    have hw := cW_ok hw
    exact hK0 _ hw _ _ _ (sameX_of S1694.base) fr1633 fr1649 (ne_of_none (x1638 _ _ h1632 (ne_of_none h1624 n1627).symm) n1643) h1695 h1696 h1697

abbrev N__law_header : List Str := ["settings", "cell", "slots", "deblock", "kind", "refs", "weight", "edge"]
theorem sc__law_header : FnScope N__law_header ["settings", "cell", "slots", "deblock"] (defScope s__law_header) := ⟨rfl, rfl, rfl, by decide +kernel, rfl, by decide +kernel, by decide +kernel⟩
theorem ok__law_header (D : DefX K mg "_law_header" s__law_header ["settings", "cell", "slots", "deblock"] pats__law_header) (T : Txt w K mg AD) (c_PictureHeader___init__ : MakX P w K mg base 3 "PictureHeader" AD.c_PictureHeader (sp_PictureHeader___init__ K AD) (pats_PictureHeader___init__ AD)) : CalX P w K mg base 5 "_law_header" (sp__law_header K AD) pats__law_header := by
  refine D.ok sc__law_header (fun vs H Q E h => ?_) (fun f cdv A_ outer s H vs Q E hr h => ?_)
  · obtain ⟨G, p_settings, p_settings_fmt, dx_settings, dx_settings_fmt, settings', cell', slots', deblock', rfl, _⟩ := h
    rfl
  · obtain ⟨G, p_settings, p_settings_fmt, dx_settings, dx_settings_fmt, settings', cell', slots', deblock', rfl, sG, h_p_settings, h_p_settings_fmt, hw⟩ := h
    refine ⟨_, (pss_cons (ps_set (i := 4) sc__law_header.nd rfl (Or.inl rfl) (pe_ix (ix_listK (K := K)) (pe_lst (pa_cons pe_str (pa_cons pe_str (pa_cons pe_str pa_nil)))) (pe_op op_mod (pv 1) pe_int) (fun _ _ => rfl)))
      (pss_cons (ps_set (i := 5) sc__law_header.nd rfl (Or.inl rfl) (pe_lst pa_nil))
      (C8.pss_cut (ps_if (pt_cmpR op_eq (pv 4) pe_str (nomark _)) (pss_cons (ps_set (i := 5) sc__law_header.nd rfl (Or.inl rfl) (pe_lst (pa_cons (pe_op op_mod (pe_op op_fdivW (pv 1) pe_int) (pv 2)) pa_nil)))
      (pss_one (ps_if (pt_cmp (pc_eqI (pe_op op_mod (pe_op op_fdivW (pv 1) pe_int) pe_int) pe_int)) (pss_one (ps_expr (pe_bm PySem.F.plainAttrs_list PySem.F.slot_list_append PySem.F.type_list_append mt_append (pv 5) (pa_cons (pe_op op_mod (pe_op op_fdivW (pv 1) pe_int) (pv 2)) pa_nil)))) pss_nil))) pss_nil)
      (pss_cons (ps_set (i := 6) sc__law_header.nd rfl (Or.inl rfl) pe_int)
      (C8.pss_cut (ps_if (pt_cmpR op_eq (pv 4) pe_str (nomark _)) (pss_cons (ps_set (i := 5) sc__law_header.nd rfl (Or.inl rfl) (pe_lst (pa_cons (pe_op op_mod (pe_op op_fdivW (pv 1) pe_int) (pv 2)) (pa_cons (pe_op op_mod (pe_op op_fdivW (pv 1) pe_int) (pv 2)) pa_nil))))
      (pss_one (ps_set (i := 6) sc__law_header.nd rfl (Or.inl rfl) (pe_op op_mod (pe_op op_fdivW (pv 1) pe_int) pe_int)))) pss_nil)
      (pss_cons (ps_set (i := 7) sc__law_header.nd rfl (Or.inl rfl) pe_int)
      (C8.pss_cut (ps_if (pt_val (pv 3)) (pss_one (ps_set (i := 7) sc__law_header.nd rfl (Or.inl rfl) (pe_op op_sub (pe_op op_mod (pe_op op_fdivW (pv 1) pe_int) pe_int) pe_int))) pss_nil)
      (pss_one (ps_ret (vx_makeX c_PictureHeader___init__ (pat_PictureHeader___init___0 AD) (.head _) hr (by decide) (takes_of rfl rfl rfl rfl) rfl (pa_cons (pv 0) pa_nil) (pk_cons (pe_op op_mod (pe_op op_fdivW (pv 1) pe_int) pe_int) (pk_cons (pv 4) (pk_cons (pe_op op_mod (pe_op op_fdivW (pv 1) pe_int) pe_int) (pk_cons (pv 5) (pk_cons (pv 6) (pk_cons (pv 7) pk_nil)))))))))))))))), ?_⟩
    obtain ⟨KK, EE, hK0, hE, hw⟩ := cW_gen hw
    have S0 := Sep.startG sG
    unfold F__law_header at hw
    refine ⟨(by show 3 ≤ sizeLine; decide), fun p1698 n1699 => ?_⟩
    generalize g1700 : upd H p1698 _ = H1701
    obtain ⟨e1702, h1703⟩ := gen_new n1699 g1700
    have h1704 : H1701 p1698 = some (.lst (([("I" : Str), ("P" : Str), ("B" : Str)] : (List Str)).map V.str)) := h1703
    have fr1705 := S0.free n1699
    have S1706 := S0.new n1699 e1702 h1704 fr1705
    obtain ⟨g1707, hw⟩ := cW_grd hw
    refine ⟨_, rfl, _, _, rfl, rfl, (show (0 : Int) < 3 by decide), _, _, _, _, rfl, rfl, (SqL.of h1704), (atI_map g1707), (by show 0 ≤ sizeLine; decide), fun p1708 n1709 => ?_⟩
    generalize g1710 : upd H1701 p1708 _ = H1711
    obtain ⟨e1712, h1713⟩ := gen_new n1709 g1710
    have h1714 : H1711 p1708 = some (.lst ((([] : (List Int)) : (List Int)).map V.int)) := h1713
    have fr1715 := S1706.free n1709
    have S1716 := S1706.new n1709 e1712 h1714 fr1715
    refine ⟨fun σ H' => ∃ (p1724 : Addr) (refs_1723 : (List Int)) (G' : Hp), σ = [some (V.ref p_settings), some (V.int (cell')), some (V.int (slots')), some (V.bl (deblock')), some (V.str ((itD ([("I" : Str), ("P" : Str), ("B" : Str)]) ((cell' % 3))))), some (V.ref p1724), none, none] ∧ Same G G' ∧ Sep [] H G G' H' [p1724] ∧ H' p1724 = some (.lst ((refs_1723 : (List Int)).map V.int)) ∧ H p1724 = none ∧ cW (F__law_header_k1 (settings') (cell') (slots') (deblock') ((itD ([("I" : Str), ("P" : Str), ("B" : Str)]) ((cell' % 3)))) refs_1723) KK EE, ?_, ?_⟩
    · obtain ⟨K1725, hK1726, hw⟩ := cW_push hw
      refine ⟨_, rfl, rfl, _, rfl, ?_⟩
      refine iteD (fun c1727 => ?_) (fun c1727 => ?_)
      · have hw := cW_pos c1727 hw
        obtain ⟨g1728, hw⟩ := cW_grd hw
        refine ⟨_, rfl, _, _, rfl, rfl, (divW_lit (by decide) (by decide)), _, rfl, _, _, rfl, rfl, g1728, (by show 1 ≤ sizeLine; decide), fun p1729 n1730 => ?_⟩
        generalize g1731 : upd H1711 p1729 _ = H1732
        obtain ⟨e1733, h1734⟩ := gen_new n1730 g1731
        have h1735 : H1732 p1729 = some (.lst (([((cell' / 3) % slots')] : (List Int)).map V.int)) := h1734
        have fr1736 := S1716.free n1730
        have S1737 := S1716.new n1730 e1733 h1735 fr1736
        refine ⟨_, rfl, _, _, rfl, rfl, (divW_lit (by decide) (by decide)), _, _, rfl, rfl, (show (0 : Int) < 2 by decide), _, _, rfl, rfl, _, rfl, ?_⟩
        refine iteD (fun c1738 => ?_) (fun c1738 => ?_)
        · have hw := cW_pos c1738 hw
          obtain ⟨g1739, hw⟩ := cW_grd hw
          obtain ⟨g1740, hw⟩ := cW_grd hw
          refine ⟨_, rfl, (.inl ⟨rfl, _, SqL.of h1735⟩), _, rfl, _, _, rfl, rfl, (divW_lit (by decide) (by decide)), _, rfl, _, _, rfl, rfl, g1739, _, _, _, rfl, rfl, h1735, (app_lenM g1740), ?_⟩
          generalize g1741 : upd H1732 p1729 _ = H1742
          obtain ⟨x1743, h1744⟩ := gen_mut g1741
          have h1745 : H1742 p1729 = some (.lst ((([((cell' / 3) % slots')]) ++ [((cell' / 14) % slots')] : (List Int)).map V.int)) := snoc_map h1744
          have S1746 := S1737.mut1 x1743 (.head _) h1745
          have hw := cW_bnd hw
          have hw := cW_ok hw
          have hw := hK1726 _ hw
          exact ⟨_, (([((cell' / 3) % slots')]) ++ [((cell' / 14) % slots')]), _, rfl, (Same.refl _), (S1746.sub (all_cons (.head _) all_nil)), h1745, fr1736, hw⟩
        · have hw := cW_neg c1738 hw
          have hw := cW_ok hw
          have hw := hK1726 _ hw
          exact ⟨_, ([((cell' / 3) % slots')]), _, rfl, (Same.refl _), (S1737.sub (all_cons (.head _) all_nil)), h1735, fr1736, hw⟩
      · have hw := cW_neg c1727 hw
        have hw := cW_ok hw
        have hw := hK1726 _ hw
        exact ⟨_, (([] : (List Int))), _, rfl, (Same.refl _), (S1716.sub (all_cons (.head _) all_nil)), h1714, fr1715, hw⟩
    · intro σ H1748 hw
      obtain ⟨p1724, refs_1723, G1752, rfl, eG1753, S1749, h1750, fr1751, hw⟩ := hw
      unfold F__law_header_k1 at hw
      refine ⟨fun σ H' => ∃ (p1761 : Addr) (refs_1760 : (List Int)) (weight_1762 : Int) (G' : Hp), σ = [some (V.ref p_settings), some (V.int (cell')), some (V.int (slots')), some (V.bl (deblock')), some (V.str ((itD ([("I" : Str), ("P" : Str), ("B" : Str)]) ((cell' % 3))))), some (V.ref p1761), some (V.int weight_1762), none] ∧ Same G1752 G' ∧ Sep [] H G G' H' [p1761] ∧ H' p1761 = some (.lst ((refs_1760 : (List Int)).map V.int)) ∧ H p1761 = none ∧ cW (F__law_header_k2 (settings') (cell') (deblock') ((itD ([("I" : Str), ("P" : Str), ("B" : Str)]) ((cell' % 3)))) refs_1760 weight_1762) KK EE, ?_, ?_⟩
      · obtain ⟨K1763, hK1764, hw⟩ := cW_push hw
        refine ⟨_, rfl, rfl, _, rfl, ?_⟩
        refine iteD (fun c1765 => ?_) (fun c1765 => ?_)
        · have hw := cW_pos c1765 hw
          obtain ⟨g1766, hw⟩ := cW_grd hw
          obtain ⟨g1767, hw⟩ := cW_grd hw
          refine ⟨_, rfl, _, _, rfl, rfl, (divW_lit (by decide) (by decide)), _, rfl, _, _, rfl, rfl, g1766, _, rfl, _, _, rfl, rfl, (divW_lit (by decide) (by decide)), _, rfl, _, _, rfl, rfl, g1767, (by show 2 ≤ sizeLine; decide), fun p1768 n1769 => ?_⟩
          generalize g1770 : upd H1748 p1768 _ = H1771
          obtain ⟨e1772, h1773⟩ := gen_new n1769 g1770
          have h1774 : H1771 p1768 = some (.lst (([((cell' / 3) % slots'), ((cell' / 14) % slots')] : (List Int)).map V.int)) := h1773
          have fr1775 := S1749.free n1769
          have S1776 := S1749.new n1769 e1772 h1774 fr1775
          refine ⟨_, rfl, _, _, rfl, rfl, (divW_lit (by decide) (by decide)), _, _, rfl, rfl, (show (0 : Int) < 17 by decide), ?_⟩
          have hw := cW_bnd hw
          have hw := cW_ok hw
          have hw := hK1764 _ hw
          exact ⟨_, ([((cell' / 3) % slots'), ((cell' / 14) % slots')]), (((cell' / 5) % 17)), _, rfl, (Same.refl _), (S1776.sub (all_cons (.head _) all_nil)), h1774, fr1775, hw⟩
        · have hw := cW_neg c1765 hw
          have hw := cW_ok hw
          have hw := hK1764 _ hw
          exact ⟨_, (refs_1723), (8), _, rfl, (Same.refl _), S1749, h1750, fr1751, hw⟩
      · intro σ H1778 hw
        obtain ⟨p1761, refs_1760, weight_1762, G1782, rfl, eG1783, S1779, h1780, fr1781, hw⟩ := hw
        unfold F__law_header_k2 at hw
        refine ⟨fun σ H' => ∃ (edge_1790 : Int) (G' : Hp), σ = [some (V.ref p_settings), some (V.int (cell')), some (V.int (slots')), some (V.bl (deblock')), some (V.str ((itD ([("I" : Str), ("P" : Str), ("B" : Str)]) ((cell' % 3))))), some (V.ref p1761), some (V.int (weight_1762)), some (V.int edge_1790)] ∧ Same G1782 G' ∧ Sep [] H G G' H' [p1761] ∧ H' p1761 = some (.lst ((refs_1760 : (List Int)).map V.int)) ∧ cW (F__law_header_k3 (settings') (cell') ((itD ([("I" : Str), ("P" : Str), ("B" : Str)]) ((cell' % 3)))) (refs_1760) (weight_1762) edge_1790) KK EE, ?_, ?_⟩
        · obtain ⟨K1791, hK1792, hw⟩ := cW_push hw
          refine ⟨_, rfl, _, rfl, ?_⟩
          refine iteB (fun c1793 => ?_) (fun c1793 => ?_)
          · have hw := cW_pos c1793 hw
            refine ⟨_, rfl, _, _, rfl, rfl, (divW_lit (by decide) (by decide)), _, _, rfl, rfl, (show (0 : Int) < 13 by decide), _, _, rfl, rfl, ?_⟩
            have hw := cW_bnd hw
            have hw := cW_ok hw
            have hw := hK1792 _ hw
            exact ⟨((((cell' / 11) % 13) - 6)), _, rfl, (Same.refl _), S1779, h1780, hw⟩
          · have hw := cW_negB c1793 hw
            have hw := cW_ok hw
            have hw := hK1792 _ hw
            exact ⟨(0), _, rfl, (Same.refl _), S1779, h1780, hw⟩
        · intro σ H1795 hw
          obtain ⟨edge_1790, G1798, rfl, eG1799, S1796, h1797, hw⟩ := hw
          unfold F__law_header_k3 at hw
          refine ⟨_, rfl, _, rfl, _, _, rfl, rfl, (divW_lit (by decide) (by decide)), _, _, rfl, rfl, (show (0 : Int) < 1000 by decide), _, rfl, _, rfl, _, _, rfl, rfl, (divW_lit (by decide) (by decide)), _, _, rfl, rfl, (show (0 : Int) < 32 by decide), _, rfl, _, rfl, _, rfl, rfl, rfl, fun x1800 dx1801 n1802 n1803 n1804 => ?_⟩
          generalize g1805 : upd (upd H1795 dx1801 _) x1800 _ = H1806
          obtain ⟨e1807, h1808⟩ := gen_obj n1802 n1803 n1804 g1805
          have fr1809 := S1796.free n1802
          have S1810 := S1796.new n1802 e1807 h1808 fr1809
          have h1811 := (e1807 _ _ h1797)
          refine ⟨G1798, _, _, _, _, _, _, settings', _, _, _, _, _, _, _, _, _, _, _, rfl, S1810.sG, (S1810.gno (all_cons (.head _) all_nil)), h1808, ((hideL_out (ni1 (b_ne h_p_settings S1810 (.head _)))).trans (S1810.bM _ _ h_p_settings)), ((hideL_out (ni1 (b_ne h_p_settings_fmt S1810 (.head _)))).trans (S1810.bM _ _ h_p_settings_fmt)), ⟨_, rfl, .inr (.inr T.td_PictureHeader___init___store)⟩, ⟨_, rfl, .inl ((hideL_out (ni1 (ne_of_none h1797 n1802))).trans h1811)⟩, cW_call hw (fun v1812 hw H1815 l1813 l1814 x1816 n1821 n1822 ne1823 h1817 h1819 h1820 => ⟨rfl, ?_⟩) (fun e he H2 e2 => hE e he H2 (Same.trans S1796.b0 (same_mut e1807 e2 n1802)))⟩
          have fr1824 := S1810.free n1821
          have fr1825 := S1810.free n1822
          have S1818 : Sep _ _ _ _ H1815 [l1813, l1814, x1800, p1761] := Sep.init S1810 x1816 (.head _) h1817 [l1813, l1814] (all_cons ⟨n1821, some_ne h1819, fr1824⟩ (all_cons ⟨n1822, some_ne h1820, fr1825⟩ all_nil))
          have hw := cW_ok hw
          exact hK0 _ hw _ _ _ _ _ S1818.b0 fr1809 fr1824 fr1825 ne1823 h1817 h1819 h1820

abbrev N_copy_planes : List Str := ["planes", "plane", "row"]
theorem sc_copy_planes : FnScope N_copy_planes ["planes"] (defScope s_copy_planes) := ⟨rfl, rfl, rfl, by decide +kernel, rfl, by decide +kernel, by decide +kernel⟩
theorem ok_copy_planes (D : DefX K mg "copy_planes" s_copy_planes ["planes"] pats_copy_planes) (T : Txt w K mg AD)  : CalX P w K mg base 1 "copy_planes" (sp_copy_planes K AD) pats_copy_planes := by
  refine D.ok sc_copy_planes (fun vs H Q E h => ?_) (fun f cdv A_ outer s H vs Q E hr h => ?_)
  · obtain ⟨G, v_planes, planes', rfl, _⟩ := h
    rfl
  · obtain ⟨G, v_planes, planes', rfl, sG, r_planes, hw⟩ := h
    refine ⟨_, (pss_one (ps_ret (pe_lc (own := [("plane", 1)]) (g := gName 1) (by rfl) sc_copy_planes.nd (pi_listK (K := K) (pv 0)) (blkOk_by (own := [("plane", 1)]) (N := N_copy_planes) (sc := defScope s_copy_planes) (by decide +kernel)) (fun _ _ _ _ _ => (pg_name (i := 1) sc_copy_planes.nd rfl (Or.inl rfl))) (fun _ _ _ _ _ => pts_nil) (fun _ _ _ _ _ => (pe_lc (own := [("row", 2)]) (g := gName 2) (by rfl) sc_copy_planes.nd (pi_listK (K := K) (pv 1)) (blk_relabel (blkOk_by (own := [("row", 2)]) (N := N_copy_planes) (by decide +kernel))) (fun _ _ _ _ _ => (pg_name (i := 2) sc_copy_planes.nd rfl (Or.inl rfl))) (fun _ _ _ _ _ => pts_nil) (fun _ _ _ _ _ => (pe_callTy (call_listLK (K := K)) (by rfl) T.b_list (by decide +kernel) (pa_cons (pv 2) pa_nil)))))))), ?_⟩
    obtain ⟨KK, EE, hK0, hE, hw⟩ := cW_gen hw
    have S0 := Sep.startG sG
    unfold F_copy_planes at hw
    obtain ⟨a1826, vs1827, rfl, h1828, d1829⟩ := rp_list r_planes
    obtain ⟨K1831, hK1832, hw⟩ := cW_push hw
    refine ⟨_, rfl, _, rfl, ⟨_, (SqL.of (S0.bM _ _ h1828))⟩, fun D1833 n1834 => lc_list (K := K) (a := a1826) (xs := vs1827) (fun i H' => ∃ (G' : Hp) (acc1836 : (List (List (List Int)))) (vs1837 : List V) (L1835 : List Addr), Same G G' ∧ Sep [] H G G' H' (D1833 :: (L1835 ++ [])) ∧ H' D1833 = some (.lst vs1837) ∧ OwAll G' H' L1835 vs1837 ((acc1836 : (List (List (List Int)))).map (oL (oL oI))) ∧ (∀ b ∈ L1835, H b = none) ∧ (∀ b ∈ L1835, b ≠ D1833) ∧ Same H H' ∧ cW (mapA (List.drop i (planes')) acc1836 (fun x => noEr (F_copy_planes_c1  x))) K1831 EE) ?_ ?_ ?_ ?_⟩
    · generalize g1838 : upd H D1833 _ = H1839
      obtain ⟨e1840, h1841⟩ := gen_new n1834 g1838
      have fr1842 := S0.free n1834
      have S1843 := S0.new n1834 e1840 h1841 fr1842
      exact ⟨_, [], [], [], Same.refl _, (S1843.sub (all_cons (.head _) (all_app (L := []) all_nil all_nil))), h1841, OwAll.nil, all_nil, all_nil, e1840, hw⟩
    · intro i H1844 _ hw
      obtain ⟨G1847, acc1849, vs1850, L1852, eG1848, S1845, h1846, d1851, nb1853, nd1854, eo1855, hw⟩ := hw
      exact (SqL.of (S1845.bM _ _ h1828))
    · intro i x H1856 hj hw
      obtain ⟨G1859, acc1861, vs1862, L1864, eG1860, S1857, h1858, d1863, nb1865, nd1866, eo1867, hw⟩ := hw
      obtain ⟨x1868, hx, r1869⟩ := RpAll.get d1829 hj
      obtain ⟨a1870, vs1871, rfl, h1872, d1873⟩ := rp_list r1869
      obtain ⟨z1874, hw⟩ := cW_mapA hx hw
      have hw := cW_noEr hw
      have hw : cW (F_copy_planes_c1  (x1868)) _ (fun _ => False) := hw
      unfold F_copy_planes_c1 at hw
      refine ⟨rfl, ?_⟩
      refine tyes_go ?_
      obtain ⟨K1877, hK1878, hw⟩ := cW_push hw
      refine ⟨_, rfl, _, rfl, ⟨_, (SqL.of (S1857.bM _ _ h1872))⟩, fun D1879 n1880 => lc_list (K := K) (a := a1870) (xs := vs1871) (fun i2 H' => ∃ (G' : Hp) (acc1882 : (List (List Int))) (vs1883 : List V) (L1881 : List Addr), Same G1859 G' ∧ Sep [] H G G' H' (D1879 :: (L1881 ++ (D1833 :: (L1864 ++ [])))) ∧ H' D1833 = some (.lst (vs1862)) ∧ H' D1879 = some (.lst vs1883) ∧ OwAll G' H' L1864 (vs1862) ((acc1861 : (List (List (List Int)))).map (oL (oL oI))) ∧ OwAll G' H' L1881 vs1883 ((acc1882 : (List (List Int))).map (oL oI)) ∧ (∀ b ∈ L1881, H1856 b = none) ∧ (∀ b ∈ L1881, b ≠ D1879) ∧ Same H1856 H' ∧ cW (mapA (List.drop i2 (x1868)) acc1882 (fun x => noEr (F_copy_planes_c2  x))) K1877 (fun _ => False)) ?_ ?_ ?_ ?_⟩
      · generalize g1884 : upd H1856 D1879 _ = H1885
        obtain ⟨e1886, h1887⟩ := gen_new n1880 g1884
        have fr1888 := S1857.free n1880
        have S1889 := S1857.new n1880 e1886 h1887 fr1888
        have h1890 := (e1886 _ _ h1858)
        have w1891 : OwAll G1859 H1885 L1864 (vs1862) ((acc1861 : (List (List (List Int)))).map (oL (oL oI))) := (OwAll.mono (Same.refl _) (keeps_same e1886) d1863)
        exact ⟨_, [], [], [], Same.refl _, (S1889.sub (all_cons (.head _) (all_app (L := []) all_nil (all_cons (.tail _ (.head _)) (all_app ((fun b hb => (.tail _ (.tail _ (List.mem_append_left _ hb)))) : ∀ b ∈ L1864, b ∈ (D1879 :: (D1833 :: (L1864 ++ [])))) all_nil))))), h1890, h1887, w1891, OwAll.nil, all_nil, all_nil, e1886, hw⟩
      · intro i2 H1892 _ hw
        obtain ⟨G1895, acc1897, vs1898, L1900, eG1896, S1893, h1904, h1894, w1905, d1899, nb1901, nd1902, eo1903, hw⟩ := hw
        exact (SqL.of (S1893.bM _ _ h1872))
      · intro i2 x H1906 hj hw
        obtain ⟨G1909, acc1911, vs1912, L1914, eG1910, S1907, h1918, h1908, w1919, d1913, nb1915, nd1916, eo1917, hw⟩ := hw
        obtain ⟨x1920, hx, r1921⟩ := RpAll.get d1873 hj
        obtain ⟨a1922, rfl, h1923⟩ := rp_ints r1921
        obtain ⟨z1924, hw⟩ := cW_mapA hx hw
        have hw := cW_noEr hw
        have hw : cW (F_copy_planes_c2  (x1920)) _ (fun _ => False) := hw
        unfold F_copy_planes_c2 at hw
        refine ⟨rfl, ?_⟩
        refine tyes_go ?_
        refine ⟨_, rfl, _, _, rfl, (SqL.of (S1907.bM _ _ h1923)), fun p1926 n1927 => ?_⟩
        generalize g1928 : upd H1906 p1926 _ = H1929
        obtain ⟨e1930, h1931⟩ := gen_new n1927 g1928
        have h1932 : H1929 p1926 = some (.lst ((x1920 : (List Int)).map V.int)) := h1931
        have fr1933 := S1907.free n1927
        have S1934 := S1907.new n1927 e1930 h1932 fr1933
        have w1935 : OwAll G1909 H1929 L1914 (vs1912) ((acc1911 : (List (List Int))).map (oL oI)) := (OwAll.mono (Same.refl _) (keeps_same e1930) d1913)
        have h1936 := (e1930 _ _ h1908)
        refine ⟨_, h1936, (app_len (OwAll.rpA w1935 (encO_L encO_I) S1934.sG) z1924), ?_⟩
        generalize g1937 : upd H1929 D1879 _ = H1938
        obtain ⟨x1939, h1940⟩ := gen_mut g1937
        have S1941 := S1934.mut1 x1939 (.tail _ (.head _)) h1940
        have hw := cW_ok hw
        have h1942 := (x1939 _ _ (e1930 _ _ h1918) (ne_of_none h1858 n1880))
        have w1943 : OwAll G1909 H1938 L1864 (vs1862) ((acc1861 : (List (List (List Int)))).map (oL (oL oI))) := (OwAll.mono (Same.refl _) (keeps_mut x1939 ((there_ne (fun b_ hb_ => (S1857.ow b_ (((fun b hb => (.tail _ (List.mem_append_left _ hb))) : ∀ b ∈ L1864, b ∈ (D1833 :: (L1864 ++ []))) b_ hb_)).2.1) n1880) : ∀ b ∈ L1864, b ≠ D1879)) (OwAll.mono (Same.refl _) (keeps_same e1930) w1919))
        exact ⟨_, (acc1911 ++ [x1920]), _, (L1914 ++ (p1926 :: ([] : List Addr))), eG1910, (S1941.sub (all_cons (.tail _ (.head _)) (all_app (all_app ((fun b hb => (.tail _ (.tail _ (List.mem_append_left _ hb)))) : ∀ b ∈ L1914, b ∈ (p1926 :: (D1879 :: (L1914 ++ (D1833 :: (L1864 ++ [])))))) (all_cons (.head _) all_nil)) (all_cons (.tail _ (.tail _ (List.mem_append_right _ (.head _)))) (all_app ((fun b hb => (.tail _ (.tail _ (List.mem_append_right _ (.tail _ (List.mem_append_left _ hb)))))) : ∀ b ∈ L1864, b ∈ (p1926 :: (D1879 :: (L1914 ++ (D1833 :: (L1864 ++ [])))))) all_nil))))), h1942, h1940, w1943, (OwAll.mono (Same.refl _) (keeps_mut x1939 ((all_app nd1916 (all_cons (ne_of_none h1908 n1927).symm all_nil)) : ∀ b ∈ (L1914 ++ (p1926 :: ([] : List Addr))), b ≠ D1879)) (OwAll.snocM w1935 (Ow.ints h1932) ((fun b hb => (nm_cons ((there_ne (fun b_ hb_ => (S1907.ow b_ (((fun b hb => (.tail _ (List.mem_append_left _ hb))) : ∀ b ∈ L1914, b ∈ (D1879 :: (L1914 ++ (D1833 :: (L1864 ++ []))))) b_ hb_)).2.1) n1927) b hb) nm_nil)) : ∀ b ∈ L1914, b ∉ (p1926 :: ([] : List Addr))))), ((all_app nb1915 (all_cons (none_of_same eo1917 n1927) all_nil)) : ∀ b ∈ (L1914 ++ (p1926 :: ([] : List Addr))), H1856 b = none), ((all_app nd1916 (all_cons (ne_of_none h1908 n1927).symm all_nil)) : ∀ b ∈ (L1914 ++ (p1926 :: ([] : List Addr))), b ≠ D1879), (same_mut (Same.trans eo1917 e1930) x1939 n1880), hw⟩
      intro H1944 hw
      obtain ⟨G1947, acc1949, vs1950, L1952, eG1948, S1945, h1956, h1946, w1957, d1951, nb1953, nd1954, eo1955, hw⟩ := hw
      have hw := hK1878 _ (cW_mapA0 (by rw [d1873.len, List.length_map]) hw)
      have fr1958 := S1857.free n1880
      refine ⟨_, h1956, (app_len (OwAll.rpA w1957 (encO_L (encO_L encO_I)) S1945.sG) z1874), ?_⟩
      generalize g1959 : upd H1944 D1833 _ = H1960
      obtain ⟨x1961, h1962⟩ := gen_mut g1959
      have S1963 := S1945.mut1 x1961 (.tail _ (List.mem_append_right _ (.head _))) h1962
      have hw := cW_ok hw
      exact ⟨_, (acc1861 ++ [acc1949]), _, (L1864 ++ (D1879 :: L1952)), (Same.trans eG1860 eG1948), (S1963.sub (all_cons (.tail _ (List.mem_append_right _ (.head _))) (all_app (all_app ((fun b hb => (.tail _ (List.mem_append_right _ (.tail _ (List.mem_append_left _ hb))))) : ∀ b ∈ L1864, b ∈ (D1879 :: (L1952 ++ (D1833 :: (L1864 ++ []))))) (all_cons (.head _) ((fun b hb => (.tail _ (List.mem_append_left _ hb))) : ∀ b ∈ L1952, b ∈ (D1879 :: (L1952 ++ (D1833 :: (L1864 ++ []))))))) all_nil))), h1962, (OwAll.mono (Same.refl _) (keeps_mut x1961 ((all_app nd1866 (all_cons (ne_of_none h1858 n1880).symm (new_ne2 nb1953 (S1857.ow _ (.head _)).2.1))) : ∀ b ∈ (L1864 ++ (D1879 :: L1952)), b ≠ D1833)) (OwAll.snocM w1957 (Ow.list h1946 d1951 (nd1954 : ∀ b ∈ L1952, b ≠ D1879)) ((fun b hb => (nm_cons ((there_ne (fun b_ hb_ => (S1857.ow b_ (((fun b hb => (.tail _ (List.mem_append_left _ hb))) : ∀ b ∈ L1864, b ∈ (D1833 :: (L1864 ++ []))) b_ hb_)).2.1) n1880) b hb) ((nl_symm (new_nl nb1953 (fun b_ hb_ => (S1857.ow b_ (((fun b hb => (.tail _ (List.mem_append_left _ hb))) : ∀ b ∈ L1864, b ∈ (D1833 :: (L1864 ++ []))) b_ hb_)).2.1))) b hb))) : ∀ b ∈ L1864, b ∉ (D1879 :: L1952)))), ((all_app nb1865 (all_cons (none_of_same eo1867 n1880) (fun b hb => none_of_same eo1867 (nb1953 b hb)))) : ∀ b ∈ (L1864 ++ (D1879 :: L1952)), H b = none), ((all_app nd1866 (all_cons (ne_of_none h1858 n1880).symm (new_ne2 nb1953 (S1857.ow _ (.head _)).2.1))) : ∀ b ∈ (L1864 ++ (D1879 :: L1952)), b ≠ D1833), (same_mut (Same.trans eo1867 eo1955) x1961 n1834), hw⟩
    intro H1964 hw
    obtain ⟨G1967, acc1969, vs1970, L1972, eG1968, S1965, h1966, d1971, nb1973, nd1974, eo1975, hw⟩ := hw
    have hw := hK1832 _ (cW_mapA0 (by rw [d1829.len, List.length_map]) hw)
    have fr1976 := S0.free n1834
    have hw := cW_ok hw
    exact hK0 _ hw _ _ _ _ _ fr1976 ((fun b hb => S0.free (nb1973 b hb)) : ∀ b ∈ L1972, H b = none) (nd1974 : ∀ b ∈ L1972, b ≠ D1833) S1965.b0 S1965.g0 S1965.sG S1965.gn (S1965.ow _ (.head _)).1 ((fun b hb => (S1965.ow b (((fun b hb => (.tail _ (List.mem_append_left _ hb))) : ∀ b ∈ L1972, b ∈ (D1833 :: (L1972 ++ []))) b hb)).1) : ∀ b ∈ L1972, G1967 b = none) h1966 d1971

abbrev N__content : List Str := ["fmt", "planes"]
theorem sc__content : FnScope N__content ["fmt", "planes"] (defScope s__content) := ⟨rfl, rfl, rfl, by decide +kernel, rfl, by decide +kernel, by decide +kernel⟩
theorem ok__content (D : DefX K mg "_content" s__content ["fmt", "planes"] pats__content) (T : Txt w K mg AD) (c_middle_planes : CalX P w K mg base 8 "middle_planes" (sp_middle_planes K AD) pats_middle_planes) (c_copy_planes : CalX P w K mg base 1 "copy_planes" (sp_copy_planes K AD) pats_copy_planes) : CalX P w K mg base 9 "_content" (sp__content K AD) pats__content := by
  refine D.ok sc__content (fun vs H Q E h => ?_) (fun f cdv A_ outer s H vs Q E hr h => ?_)
  · obtain ⟨G, p_fmt, dx_fmt, fmt', v_planes, planes', rfl, _⟩ := h
    rfl
  · obtain ⟨G, p_fmt, dx_fmt, fmt', v_planes, planes', rfl, sG, h_p_fmt, r_planes, hw⟩ := h
    refine ⟨_, (pss_one (ps_ret (pe_ifExp (pt_cmpR op_isND (pv 1) pe_non (nomark _)) (vx_callX c_middle_planes pat_middle_planes_0 (.head _) hr (by decide) (takes_of rfl rfl rfl rfl) rfl (pa_cons (pv 0) pa_nil) pk_nil) (vx_callX c_copy_planes pat_copy_planes_0 (.head _) hr (by decide) (takes_of rfl rfl rfl rfl) rfl (pa_cons (pv 1) pa_nil) pk_nil)))), ?_⟩
    obtain ⟨KK, EE, hK0, hE, hw⟩ := cW_gen hw
    have S0 := Sep.startG sG
    unfold F__content at hw
    refine ⟨_, rfl, planes', rfl, (Rp.mono S0.bM r_planes), _, rfl, ?_⟩
    refine iteB (fun c1977 => ?_) (fun c1977 => ?_)
    · have hw := cW_pos c1977 hw
      refine ⟨_, rfl, rfl, rfl, G, _, _, fmt', rfl, S0.sG, (hide_nil (S0.bM _ _ h_p_fmt)), cW_call hw (fun v1978 hw H1979 a1981 vs1982 L1983 G1984 n1985 nb1986 nd1987 e1980 eG1988 sG1989 hn1990 ga1991 gL1992 h1993 w1994 => ?_) (fun e he H2 e2 => hE e he H2 (Same.trans S0.b0 e2))⟩
      have fr1995 := S0.free n1985
      have S1996 : Sep _ _ _ _ H1979 (a1981 :: (L1983 ++ [])) := Sep.steptree S0 e1980 eG1988 sG1989 hn1990 (a1981 :: L1983) (all_cons ⟨n1985, ga1991, some_ne h1993⟩ (fun b hb => ⟨nb1986 b hb, gL1992 b hb, OwAll.there w1994 b hb⟩))
      have hw := cW_ok hw
      exact hK0 _ hw _ _ _ _ _ fr1995 ((fun b hb => Sep.h0 S1996 (((fun b hb => (.tail _ (List.mem_append_left _ hb))) : ∀ b ∈ L1983, b ∈ (a1981 :: (L1983 ++ []))) b hb) nm_nil) : ∀ b ∈ L1983, H b = none) (nd1987 : ∀ b ∈ L1983, b ≠ a1981) S1996.b0 S1996.g0 S1996.sG S1996.gn (S1996.ow _ (.head _)).1 ((fun b hb => (S1996.ow b (((fun b hb => (.tail _ (List.mem_append_left _ hb))) : ∀ b ∈ L1983, b ∈ (a1981 :: (L1983 ++ []))) b hb)).1) : ∀ b ∈ L1983, G1984 b = none) h1993 w1994
    · have hw := cW_negB c1977 hw
      obtain ⟨g1997, hw⟩ := cW_grd hw
      have r1998 : Rp (hideL [] H) v_planes ((encL (encL (encL PyData.int))) (((cL (cL (cL cI)))).dec (planes'))) := rp_dcast (cL (cL (cL cI))) g1997 r_planes
      obtain ⟨a1999, vs2000, rfl, h2001, d2002⟩ := rp_list r1998
      refine ⟨_, rfl, rfl, rfl, G, _, _, rfl, S0.sG, (Rp.hide_nil (rp_mk_list (S0.bM _ _ h2001) (RpAll.mono S0.bM d2002))), cW_call hw (fun v2003 hw H2004 a2006 vs2007 L2008 G2009 n2010 nb2011 nd2012 e2005 eG2013 sG2014 hn2015 ga2016 gL2017 h2018 w2019 => ?_) (fun e he H2 e2 => hE e he H2 (Same.trans S0.b0 e2))⟩
      have fr2020 := S0.free n2010
      have S2021 : Sep _ _ _ _ H2004 (a2006 :: (L2008 ++ [])) := Sep.steptree S0 e2005 eG2013 sG2014 hn2015 (a2006 :: L2008) (all_cons ⟨n2010, ga2016, some_ne h2018⟩ (fun b hb => ⟨nb2011 b hb, gL2017 b hb, OwAll.there w2019 b hb⟩))
      have hw := cW_ok hw
      exact hK0 _ hw _ _ _ _ _ fr2020 ((fun b hb => Sep.h0 S2021 (((fun b hb => (.tail _ (List.mem_append_left _ hb))) : ∀ b ∈ L2008, b ∈ (a2006 :: (L2008 ++ []))) b hb) nm_nil) : ∀ b ∈ L2008, H b = none) (nd2012 : ∀ b ∈ L2008, b ≠ a2006) S2021.b0 S2021.g0 S2021.sG S2021.gn (S2021.ow _ (.head _)).1 ((fun b hb => (S2021.ow b (((fun b hb => (.tail _ (List.mem_append_left _ hb))) : ∀ b ∈ L2008, b ∈ (a2006 :: (L2008 ++ []))) b hb)).1) : ∀ b ∈ L2008, G2009 b = none) h2018 w2019

abbrev N_references_of : List Str := ["settings", "header", "slots", "slot"]
theorem sc_references_of : FnScope N_references_of ["settings", "header", "slots"] (defScope s_references_of) := ⟨rfl, rfl, rfl, by decide +kernel, rfl, by decide +kernel, by decide +kernel⟩
theorem ok_references_of (D : DefX K mg "references_of" s_references_of ["settings", "header", "slots"] pats_references_of) (T : Txt w K mg AD) (c__content : CalX P w K mg base 9 "_content" (sp__content K AD) pats__content) : CalX P w K mg base 10 "references_of" (sp_references_of K AD) pats_references_of := by
  refine D.ok sc_references_of (fun vs H Q E h => ?_) (fun f cdv A_ outer s H vs Q E hr h => ?_)
  · obtain ⟨G, p_settings, p_settings_fmt, dx_settings, dx_settings_fmt, settings', p_header, l_header_store, l_header_refs, dx_header, header', v_slots, slots', rfl, _⟩ := h
    rfl
  · obtain ⟨G, p_settings, p_settings_fmt, dx_settings, dx_settings_fmt, settings', p_header, l_header_store, l_header_refs, dx_header, header', v_slots, slots', rfl, sG, h_p_settings, h_p_settings_fmt, h_p_header, h_l_header_store, h_l_header_refs, r_slots, hw⟩ := h
    refine ⟨_, (pss_one (ps_ret (pe_lc (own := [("slot", 3)]) (g := gName 3) (by rfl) sc_references_of.nd (pi_listK (K := K) (fldK (K := K) (pv 1))) (blkOk_by (own := [("slot", 3)]) (N := N_references_of) (sc := defScope s_references_of) (by decide +kernel)) (fun _ _ _ _ _ => (pg_name (i := 3) sc_references_of.nd rfl (Or.inl rfl))) (fun _ _ _ _ _ => pts_nil) (fun _ _ _ _ _ => (vx_callX c__content pat__content_0 (.head _) hr (by decide) takes0 rfl (pa_cons (fldK (K := K) (pv 0)) (pa_cons (pe_ix (ix_listK (K := K)) (pv 2) (pv 3) (fun _ _ => rfl)) pa_nil)) pk_nil))))), ?_⟩
    obtain ⟨KK, EE, hK0, hE, hw⟩ := cW_gen hw
    have S0 := Sep.startG sG
    unfold F_references_of at hw
    obtain ⟨a2022, vs2023, rfl, h2024, d2025⟩ := rp_list r_slots
    obtain ⟨K2029, hK2030, hw⟩ := cW_push hw
    refine ⟨_, rfl, _, _, _, _, _, rfl, (S0.bM _ _ h_p_header), T.cl_PictureHeader, T.n_PictureHeader_refs, rfl, _, rfl, ⟨_, (SqL.of (S0.bM _ _ h_l_header_refs))⟩, fun D2031 n2032 => lc_list (K := K) (a := l_header_refs) (xs := (header'.refs : (List Int)).map V.int) (fun i H' => ∃ (G' : Hp) (acc2034 : (List (List (List (List Int))))) (vs2035 : List V) (L2033 : List Addr), Same G G' ∧ Sep [] H G G' H' (D2031 :: (L2033 ++ [])) ∧ H' D2031 = some (.lst vs2035) ∧ OwAll G' H' L2033 vs2035 ((acc2034 : (List (List (List (List Int))))).map (oL (oL (oL oI)))) ∧ (∀ b ∈ L2033, H b = none) ∧ (∀ b ∈ L2033, b ≠ D2031) ∧ Same H H' ∧ cW (mapA (List.drop i (header'.refs)) acc2034 (fun x => noEr (F_references_of_c1 (settings') (slots') x))) K2029 EE) ?_ ?_ ?_ ?_⟩
    · generalize g2036 : upd H D2031 _ = H2037
      obtain ⟨e2038, h2039⟩ := gen_new n2032 g2036
      have fr2040 := S0.free n2032
      have S2041 := S0.new n2032 e2038 h2039 fr2040
      exact ⟨_, [], [], [], Same.refl _, (S2041.sub (all_cons (.head _) (all_app (L := []) all_nil all_nil))), h2039, OwAll.nil, all_nil, all_nil, e2038, hw⟩
    · intro i H2042 _ hw
      obtain ⟨G2045, acc2047, vs2048, L2050, eG2046, S2043, h2044, d2049, nb2051, nd2052, eo2053, hw⟩ := hw
      exact (SqL.of (S2043.bM _ _ h_l_header_refs))
    · intro i x H2054 hj hw
      obtain ⟨G2057, acc2059, vs2060, L2062, eG2058, S2055, h2056, d2061, nb2063, nd2064, eo2065, hw⟩ := hw
      obtain ⟨x2066, hx, rfl⟩ := map_get hj
      obtain ⟨z2067, hw⟩ := cW_mapA hx hw
      have hw := cW_noEr hw
      have hw : cW (F_references_of_c1 (settings') (slots') (x2066)) _ (fun _ => False) := hw
      unfold F_references_of_c1 at hw
      refine ⟨rfl, ?_⟩
      refine tyes_go ?_
      obtain ⟨g2069, hw⟩ := cW_grd hw
      obtain ⟨v2070, a2071, r2072⟩ := RpAll.ixD (k := x2066) d2025 g2069
      refine ⟨_, rfl, _, _, _, _, _, rfl, (S2055.bM _ _ h_p_settings), T.cl_Settings, T.n_Settings_fmt, rfl, _, rfl, _, rfl, _, _, _, _, rfl, rfl, (SqL.of (S2055.bM _ _ h2024)), a2071, rfl, rfl, G2057, _, _, settings'.fmt, _, (itD (slots') (x2066)), rfl, S2055.sG, (hide_nil (S2055.bM _ _ h_p_settings_fmt)), (Rp.hide_nil (Rp.mono S2055.bM r2072)), cW_call hw (fun v2073 hw H2074 a2076 vs2077 L2078 G2079 n2080 nb2081 nd2082 e2075 eG2083 sG2084 hn2085 ga2086 gL2087 h2088 w2089 => ?_) (fun e he => he.elim)⟩
      have fr2090 := S2055.free n2080
      have S2091 : Sep _ _ _ _ H2074 (a2076 :: (L2078 ++ (D2031 :: (L2062 ++ [])))) := Sep.steptree S2055 e2075 eG2083 sG2084 hn2085 (a2076 :: L2078) (all_cons ⟨n2080, ga2086, some_ne h2088⟩ (fun b hb => ⟨nb2081 b hb, gL2087 b hb, OwAll.there w2089 b hb⟩))
      have w2092 : OwAll G2079 H2074 L2062 (vs2060) ((acc2059 : (List (List (List (List Int))))).map (oL (oL (oL oI)))) := (OwAll.mono eG2083 keeps_refl (OwAll.mono (Same.refl _) (keeps_same e2075) d2061))
      have h2093 := (e2075 _ _ h2056)
      refine ⟨_, h2093, (app_len (OwAll.rpA w2092 (encO_L (encO_L (encO_L encO_I))) S2091.sG) z2067), ?_⟩
      generalize g2094 : upd H2074 D2031 _ = H2095
      obtain ⟨x2096, h2097⟩ := gen_mut g2094
      have S2098 := S2091.mut1 x2096 (.tail _ (List.mem_append_right _ (.head _))) h2097
      have hw := cW_ok hw
      exact ⟨_, (acc2059 ++ [v2073]), _, (L2062 ++ (a2076 :: L2078)), (Same.trans eG2058 eG2083), (S2098.sub (all_cons (.tail _ (List.mem_append_right _ (.head _))) (all_app (all_app ((fun b hb => (.tail _ (List.mem_append_right _ (.tail _ (List.mem_append_left _ hb))))) : ∀ b ∈ L2062, b ∈ (a2076 :: (L2078 ++ (D2031 :: (L2062 ++ []))))) (all_cons (.head _) ((fun b hb => (.tail _ (List.mem_append_left _ hb))) : ∀ b ∈ L2078, b ∈ (a2076 :: (L2078 ++ (D2031 :: (L2062 ++ []))))))) all_nil))), h2097, (OwAll.mono (Same.refl _) (keeps_mut x2096 ((all_app nd2064 (all_cons (ne_of_none h2056 n2080).symm (new_ne2 nb2081 (S2055.ow _ (.head _)).2.1))) : ∀ b ∈ (L2062 ++ (a2076 :: L2078)), b ≠ D2031)) (OwAll.snocM w2092 (Ow.list h2088 w2089 (nd2082 : ∀ b ∈ L2078, b ≠ a2076)) ((fun b hb => (nm_cons ((there_ne (fun b_ hb_ => (S2055.ow b_ (((fun b hb => (.tail _ (List.mem_append_left _ hb))) : ∀ b ∈ L2062, b ∈ (D2031 :: (L2062 ++ []))) b_ hb_)).2.1) n2080) b hb) ((nl_symm (new_nl nb2081 (fun b_ hb_ => (S2055.ow b_ (((fun b hb => (.tail _ (List.mem_append_left _ hb))) : ∀ b ∈ L2062, b ∈ (D2031 :: (L2062 ++ []))) b_ hb_)).2.1))) b hb))) : ∀ b ∈ L2062, b ∉ (a2076 :: L2078)))), ((all_app nb2063 (all_cons (none_of_same eo2065 n2080) (fun b hb => none_of_same eo2065 (nb2081 b hb)))) : ∀ b ∈ (L2062 ++ (a2076 :: L2078)), H b = none), ((all_app nd2064 (all_cons (ne_of_none h2056 n2080).symm (new_ne2 nb2081 (S2055.ow _ (.head _)).2.1))) : ∀ b ∈ (L2062 ++ (a2076 :: L2078)), b ≠ D2031), (same_mut (Same.trans eo2065 e2075) x2096 n2032), hw⟩
    intro H2099 hw
    obtain ⟨G2102, acc2104, vs2105, L2107, eG2103, S2100, h2101, d2106, nb2108, nd2109, eo2110, hw⟩ := hw
    have hw := hK2030 _ (cW_mapA0 (by rw [List.length_map]) hw)
    have fr2111 := S0.free n2032
    have hw := cW_ok hw
    exact hK0 _ hw _ _ _ _ _ fr2111 ((fun b hb => S0.free (nb2108 b hb)) : ∀ b ∈ L2107, H b = none) (nd2109 : ∀ b ∈ L2107, b ≠ D2031) S2100.b0 S2100.g0 S2100.sG S2100.gn (S2100.ow _ (.head _)).1 ((fun b hb => (S2100.ow b (((fun b hb => (.tail _ (List.mem_append_left _ hb))) : ∀ b ∈ L2107, b ∈ (D2031 :: (L2107 ++ []))) b hb)).1) : ∀ b ∈ L2107, G2102 b = none) h2101 d2106

abbrev N__law_cell : List Str := ["script", "k"]
theorem sc__law_cell : FnScope N__law_cell ["script", "k"] (defScope s__law_cell) := ⟨rfl, rfl, rfl, by decide +kernel, rfl, by decide +kernel, by decide +kernel⟩
theorem ok__law_cell (D : DefX K mg "_law_cell" s__law_cell ["script", "k"] pats__law_cell) (T : Txt w K mg AD)  : CalX P w K mg base 1 "_law_cell" (sp__law_cell K AD) pats__law_cell := by
  refine D.ok sc__law_cell (fun vs H Q E h => ?_) (fun f cdv A_ outer s H vs Q E hr h => ?_)
  · obtain ⟨G, a_script, script', k', rfl, _⟩ := h
    rfl
  · obtain ⟨G, a_script, script', k', rfl, sG, q_script, hw⟩ := h
    refine ⟨_, (pss_cons (ps_if (pt_cmp (pc_lt (pv 1) (pe_callB (call_lenLiK (K := K)) (by rfl) T.b_len (by decide +kernel) (pa_cons (pv 0) pa_nil)))) (pss_one (ps_ret (pe_callB call_abs (by rfl) T.b_abs (by decide +kernel) (pa_cons (pe_callTy call_int1 (by rfl) T.b_int (by decide +kernel) (pa_cons (pe_ix (ix_listK (K := K)) (pv 0) (pv 1) (fun _ _ => rfl)) pa_nil)) pa_nil)))) pss_nil)
      (pss_one (ps_ret pe_int))), ?_⟩
    obtain ⟨KK, EE, hK0, hE, hw⟩ := cW_gen hw
    have S0 := Sep.startG sG
    unfold F__law_cell at hw
    refine ⟨_, rfl, _, rfl, _, _, rfl, (S0.b0.seq q_script), _, _, rfl, rfl, _, rfl, ?_⟩
    refine iteD (fun c2112 => ?_) (fun c2112 => ?_)
    · have hw := cW_pos c2112 hw
      obtain ⟨g2113, hw⟩ := cW_grd hw
      refine ⟨_, rfl, _, rfl, _, _, _, _, rfl, rfl, (S0.b0.seq q_script), (atI_map g2113), .inl ⟨_, rfl, ?_⟩⟩
      refine ⟨_, rfl, ?_⟩
      have hw := cW_ok hw
      exact hK0 _ hw
    · have hw := cW_neg c2112 hw
      have hw := cW_ok hw
      exact hK0 _ hw

abbrev N__law_planes : List Str := ["cell", "fmt", "top", "planes", "plane", "size", "digits", "rows", "j", "i"]
theorem sc__law_planes : FnScope N__law_planes ["cell", "fmt", "top"] (defScope s__law_planes) := ⟨rfl, rfl, rfl, by decide +kernel, rfl, by decide +kernel, by decide +kernel⟩
theorem ok__law_planes (D : DefX K mg "_law_planes" s__law_planes ["cell", "fmt", "top"] pats__law_planes) (T : Txt w K mg AD) (c_Format_coded_size : MetX P w K mg base 4 AD.c_Format "coded_size" (sp_Format_coded_size K AD) pats_Format_coded_size) (c__law_digits : CalX P w K mg base 1 "_law_digits" (sp__law_digits K AD) pats__law_digits) (c_Format_planes : PropY P w K mg base 1 AD.c_Format "planes" (sp_Format_planes K AD) pats_Format_planes) : CalX P w K mg base 5 "_law_planes" (sp__law_planes K AD) pats__law_planes := by
  refine D.ok sc__law_planes (fun vs H Q E h => ?_) (fun f cdv A_ outer s H vs Q E hr h => ?_)
  · obtain ⟨G, cell', p_fmt, dx_fmt, fmt', top', rfl, _⟩ := h
    rfl
  · obtain ⟨G, cell', p_fmt, dx_fmt, fmt', top', rfl, sG, h_p_fmt, hw⟩ := h
    refine ⟨_, (pss_cons (ps_set (i := 3) sc__law_planes.nd rfl (Or.inl rfl) (pe_lst pa_nil))
      (pss_cons (ps_for (passes_of rfl) rfl (pi_range1 rfl T.b_range (pa_cons (vx_propX c_Format_planes hr (by decide) (pv 1)) pa_nil)) (pg_name (i := 4) sc__law_planes.nd rfl (Or.inl rfl)) (pss_cons (ps_set (i := 5) sc__law_planes.nd rfl (Or.inl rfl) (vx_methX c_Format_coded_size pat_Format_coded_size_0 (.head _) hr (by decide) (takes_of rfl rfl rfl rfl) (pv 1) (pa_cons (pv 4) pa_nil) pk_nil))
      (pss_cons (ps_set (i := 6) sc__law_planes.nd rfl (Or.inr rfl) (vx_callX c__law_digits pat__law_digits_0 (.head _) hr (by decide) (takes_of rfl rfl rfl rfl) rfl (pa_cons (pe_op op_add (pv 0) (pe_op op_mul pe_int (pv 4))) (pa_cons (pe_op op_add (pv 2) pe_int) (pa_cons pe_int pa_nil))) pk_nil))
      (pss_cons (ps_set (i := 7) sc__law_planes.nd rfl (Or.inl rfl) (pe_lst pa_nil))
      (pss_cons (ps_for (passes_of rfl) rfl (pi_range1 rfl T.b_range (pa_cons (pe_ix (ix_tupK (K := K)) (pv 5) pe_int (fun _ _ => rfl)) pa_nil)) (pg_name (i := 8) sc__law_planes.nd rfl (Or.inr rfl)) (pss_one (ps_if (pt_cmp (pc_eqI (pe_op op_mod (pe_op op_fdivW (pv 0) pe_int) pe_int) pe_int)) (pss_one (ps_expr (pe_bm PySem.F.plainAttrs_list PySem.F.slot_list_append PySem.F.type_list_append mt_append (pv 7) (pa_cons (pe_lc (own := [("i", 9)]) (g := gName 9) (by rfl) sc__law_planes.nd (pi_range1 rfl T.b_range (pa_cons (pe_ix (ix_tupK (K := K)) (pv 5) pe_int (fun _ _ => rfl)) pa_nil)) (blkOk_by (own := [("i", 9)]) (N := N__law_planes) (sc := defScope s__law_planes) (by decide +kernel)) (fun _ _ _ _ _ => (pg_name (i := 9) sc__law_planes.nd rfl (Or.inl rfl))) (fun _ _ _ _ _ => pts_nil) (fun _ _ _ _ _ => (pe_ix (ix_listK (K := K)) (pv 6) (pe_op op_mod (pe_op op_add (pe_op op_mul pe_int (pv 8)) (pv 9)) pe_int) (fun _ _ => rfl)))) pa_nil)))) (pss_one (ps_if (pt_cmp (pc_eqI (pe_op op_mod (pe_op op_fdivW (pv 0) pe_int) pe_int) pe_int)) (pss_one (ps_expr (pe_bm PySem.F.plainAttrs_list PySem.F.slot_list_append PySem.F.type_list_append mt_append (pv 7) (pa_cons (pe_lc (own := [("i", 9)]) (g := gName 9) (by rfl) sc__law_planes.nd (pi_range1 rfl T.b_range (pa_cons (pe_ix (ix_tupK (K := K)) (pv 5) pe_int (fun _ _ => rfl)) pa_nil)) (blkOk_by (own := [("i", 9)]) (N := N__law_planes) (sc := defScope s__law_planes) (by decide +kernel)) (fun _ _ _ _ _ => (pg_name (i := 9) sc__law_planes.nd rfl (Or.inl rfl))) (fun _ _ _ _ _ => pts_nil) (fun _ _ _ _ _ => (pe_op op_mod (pe_callTy call_int1 (by rfl) T.b_int (by decide +kernel) (pa_cons (pe_op op_add (pe_op op_add (pv 0) (pe_op op_mul pe_int (pv 9))) (pe_op op_mul pe_int (pv 8))) pa_nil)) (pe_op op_add (pv 2) pe_int)))) pa_nil)))) (pss_one (ps_expr (pe_bm PySem.F.plainAttrs_list PySem.F.slot_list_append PySem.F.type_list_append mt_append (pv 7) (pa_cons (pe_lc (own := [("i", 9)]) (g := gName 9) (by rfl) sc__law_planes.nd (pi_range1 rfl T.b_range (pa_cons (pe_ix (ix_tupK (K := K)) (pv 5) pe_int (fun _ _ => rfl)) pa_nil)) (blkOk_by (own := [("i", 9)]) (N := N__law_planes) (sc := defScope s__law_planes) (by decide +kernel)) (fun _ _ _ _ _ => (pg_name (i := 9) sc__law_planes.nd rfl (Or.inl rfl))) (fun _ _ _ _ _ => pts_nil) (fun _ _ _ _ _ => (pe_op op_mod (pe_callTy call_int1 (by rfl) T.b_int (by decide +kernel) (pa_cons (pe_op op_add (pe_ix (ix_listK (K := K)) (pv 6) pe_int (fun _ _ => rfl)) (pe_op op_mul (pe_op op_add (pe_op op_fdivW (pv 9) pe_int) (pe_op op_fdivW (pv 8) pe_int)) pe_int)) pa_nil)) (pe_op op_add (pv 2) pe_int)))) pa_nil)))))))))
      (pss_one (ps_expr (pe_bm PySem.F.plainAttrs_list PySem.F.slot_list_append PySem.F.type_list_append mt_append (pv 3) (pa_cons (pv 7) pa_nil)))))))))
      (pss_one (ps_ret (pv 3))))), ?_⟩
    obtain ⟨KK, EE, hK0, hE, hw⟩ := cW_gen hw
    have S0 := Sep.startG sG
    unfold F__law_planes at hw
    refine ⟨(by show 0 ≤ sizeLine; decide), fun p2114 n2115 => ?_⟩
    generalize g2116 : upd H p2114 _ = H2117
    obtain ⟨e2118, h2119⟩ := gen_new n2115 g2116
    have h2120 : H2117 p2114 = some (.lst ([])) := h2119
    have fr2121 := S0.free n2115
    have S2122 := S0.new n2115 e2118 h2120 fr2121
    have d2123 : RpAll G ([]) ((([] : (List (List (List Int)))) : (List (List (List Int)))).map (encL (encL PyData.int))) := RpAll.nil
    refine ⟨_, rfl, _, _, _, rfl, (S2122.bM _ _ h_p_fmt), G, _, _, fmt', rfl, S2122.sG, (hide_nil (S2122.bM _ _ h_p_fmt)), cW_callN hw (fun v2124 hw H2125 e2126 => ?_) trivial⟩
    have S2127 := S2122.same e2126
    obtain ⟨g2128, hw⟩ := cW_grd hw
    obtain ⟨K2132, hK2133, hw⟩ := cW_push hw
    refine ⟨_, rfl, g2128.1, g2128.2, for_range (lo := 0) (n := Int.toNat (v2124)) (fun i σ H' => ∃ (planes_2134 : (List (List (List Int)))) (vs2135 : List V) (u2136 : Option V) (u2137 : Option V) (u2138 : Option V) (u2139 : Option V) (u2140 : Option V) (G' : Hp), σ = [some (V.int (cell')), some (V.ref p_fmt), some (V.int (top')), some (V.ref p2114), u2136, u2137, u2138, u2139, u2140, none] ∧ Same G G' ∧ Sep [] H G G' H' [p2114] ∧ H' p2114 = some (.lst (vs2135)) ∧ RpAll G' (vs2135) ((planes_2134 : (List (List (List Int)))).map (encL (encL PyData.int))) ∧ cW (forS (List.drop i (rng (0) (Int.toNat (v2124)))) planes_2134 (fun s x => F__law_planes_b1 (cell') (fmt') (top') s x)) K2132 EE) ?_ ?_ ?_⟩
    · have h2141 := (e2126 _ _ h2120)
      exact ⟨(([] : (List (List (List Int))))), _, _, _, _, _, _, _, rfl, (Same.refl _), S2127, h2141, d2123, hw⟩
    · intro i σ H2142 hi hw
      obtain ⟨planes_2134, vs2135, u2136, u2137, u2138, u2139, u2140, G2146, rfl, eG2147, S2143, h2144, d2145, hw⟩ := hw
      have hw := cW_forS (rng_get hi) hw
      generalize (0 + (i : Int)) = x2148 at hw ⊢
      have hw : cW (F__law_planes_b1 (cell') (fmt') (top') (planes_2134) (x2148)) _ EE := hw
      unfold F__law_planes_b1 at hw
      obtain ⟨K2150, hK2151, hw⟩ := cW_name hw
      refine ⟨_, rfl, _, _, _, rfl, (S2143.bM _ _ h_p_fmt), rfl, _, rfl, rfl, rfl, G2146, _, _, fmt', _, rfl, S2143.sG, (hide_nil (S2143.bM _ _ h_p_fmt)), cW_call hw (fun v2153 hw v2156 H2154 G2157 e2155 eG2158 sG2159 hn2160 r2161 => ?_) (fun e he H2 e2 => hE e he H2 (Same.trans S2143.b0 e2))⟩
      have S2162 := S2143.step e2155 eG2158 sG2159 hn2160
      obtain ⟨a2163, v2165, v2166, rfl, h2164, r2167, r2168⟩ := rp_tup2 r2161
      obtain rfl := rp_int r2167
      obtain rfl := rp_int r2168
      refine ⟨_, rfl, _, rfl, _, _, rfl, rfl, (.inl ⟨by decide, by decide⟩), _, _, rfl, rfl, _, rfl, _, _, rfl, rfl, rfl, rfl, G2157, _, _, _, rfl, S2162.sG, cW_call hw (fun v2169 hw p2172 H2170 n2173 e2171 h2174 => ?_) (fun e he H2 e2 => hE e he H2 (Same.trans S2162.b0 e2))⟩
      have h2175 : H2170 p2172 = some (.lst ((v2169 : (List Int)).map V.int)) := h2174
      have fr2176 := S2162.free n2173
      have S2177 := S2162.new n2173 e2171 h2175 fr2176
      refine ⟨(by show 0 ≤ sizeLine; decide), fun p2178 n2179 => ?_⟩
      generalize g2180 : upd H2170 p2178 _ = H2181
      obtain ⟨e2182, h2183⟩ := gen_new n2179 g2180
      have h2184 : H2181 p2178 = some (.lst ([])) := h2183
      have fr2185 := S2177.free n2179
      have S2186 := S2177.new n2179 e2182 h2184 fr2185
      have d2187 : RpAll G2157 ([]) ((([] : (List (List Int))) : (List (List Int))).map (encL PyData.int)) := RpAll.nil
      obtain ⟨g2188, hw⟩ := cW_grd hw
      obtain ⟨K2194, hK2195, hw⟩ := cW_push hw
      refine ⟨_, rfl, _, _, _, _, rfl, rfl, (SqT.of (S2186.sG _ _ h2164)), rfl, _, rfl, g2188.1, g2188.2, for_range (lo := 0) (n := Int.toNat (v2153.2)) (fun i σ H' => ∃ (rows_2196 : (List (List Int))) (vs2197 : List V) (u2198 : Option V) (G' : Hp), σ = [some (V.int (cell')), some (V.ref p_fmt), some (V.int (top')), some (V.ref p2114), some (V.int (x2148)), some (V.ref a2163), some (V.ref p2172), some (V.ref p2178), u2198, none] ∧ Same G2157 G' ∧ Sep [] H G G' H' [p2114, p2172, p2178] ∧ H' p2114 = some (.lst (vs2135)) ∧ H' p2172 = some (.lst ((v2169 : (List Int)).map V.int)) ∧ H' p2178 = some (.lst (vs2197)) ∧ RpAll G' (vs2197) ((rows_2196 : (List (List Int))).map (encL PyData.int)) ∧ cW (forS (List.drop i (rng (0) (Int.toNat (v2153.2)))) rows_2196 (fun s x => F__law_planes_b2 (cell') (top') (v2153) (v2169) s x)) K2194 EE) ?_ ?_ ?_⟩
      · have h2199 := (e2182 _ _ (e2171 _ _ (e2155 _ _ h2144)))
        have h2200 := (e2182 _ _ h2175)
        exact ⟨(([] : (List (List Int)))), _, _, _, rfl, (Same.refl _), (S2186.sub (all_cons (.tail _ (.tail _ (.head _))) (all_cons (.tail _ (.head _)) (all_cons (.head _) all_nil)))), h2199, h2200, h2184, d2187, hw⟩
      · intro i σ H2201 hi hw
        obtain ⟨rows_2196, vs2197, u2198, G2207, rfl, eG2208, S2202, h2203, h2204, h2205, d2206, hw⟩ := hw
        have hw := cW_forS (rng_get hi) hw
        generalize (0 + (i : Int)) = x2209 at hw ⊢
        have hw : cW (F__law_planes_b2 (cell') (top') (v2153) (v2169) (rows_2196) (x2209)) _ EE := hw
        unfold F__law_planes_b2 at hw
        obtain ⟨K2211, hK2212, hw⟩ := cW_name hw
        refine ⟨_, rfl, _, _, rfl, rfl, (divW_lit (by decide) (by decide)), _, _, rfl, rfl, (show (0 : Int) < 3 by decide), _, _, rfl, rfl, _, rfl, ?_⟩
        refine iteD (fun c2214 => ?_) (fun c2214 => ?_)
        · have hw := cW_pos c2214 hw
          obtain ⟨g2215, hw⟩ := cW_grd hw
          obtain ⟨K2219, hK2220, hw⟩ := cW_push hw
          refine ⟨_, rfl, (.inl ⟨rfl, _, SqL.of h2205⟩), _, rfl, _, _, _, _, rfl, rfl, (SqT.of (S2202.sG _ _ (eG2208 _ _ h2164))), rfl, _, rfl, g2215.1, g2215.2, fun D2221 n2222 => lc_range (lo := 0) (n := Int.toNat (v2153.1)) (fun i H' => ∃ (G' : Hp) (acc2224 : (List Int)), Same G2207 G' ∧ Sep [] H G G' H' [D2221, p2114, p2172, p2178] ∧ H' p2114 = some (.lst (vs2135)) ∧ H' p2172 = some (.lst ((v2169 : (List Int)).map V.int)) ∧ H' p2178 = some (.lst (vs2197)) ∧ H' D2221 = some (.lst ((acc2224 : (List Int)).map V.int)) ∧ Same H2201 H' ∧ cW (mapA (List.drop i (rng (0) (Int.toNat (v2153.1)))) acc2224 (fun x => noEr (F__law_planes_c3 (v2169) (x2209) x))) K2219 EE) ?_ ?_ ?_⟩
          · generalize g2226 : upd H2201 D2221 _ = H2227
            obtain ⟨e2228, h2229⟩ := gen_new n2222 g2226
            have fr2230 := S2202.free n2222
            have S2231 := S2202.new n2222 e2228 h2229 fr2230
            have h2232 := (e2228 _ _ h2203)
            have h2233 := (e2228 _ _ h2204)
            have h2234 := (e2228 _ _ h2205)
            exact ⟨_, [], Same.refl _, S2231, h2232, h2233, h2234, h2229, e2228, hw⟩
          · intro i H2235 hi hw
            obtain ⟨G2238, acc2240, eG2239, S2236, h2247, h2248, h2249, h2237, eo2246, hw⟩ := hw
            obtain ⟨z2250, hw⟩ := cW_mapA (rng_get hi) hw
            generalize (0 + (i : Int)) = x2251 at hw ⊢
            have hw := cW_noEr hw
            have hw : cW (F__law_planes_c3 (v2169) (x2209) (x2251)) _ (fun _ => False) := hw
            unfold F__law_planes_c3 at hw
            refine ⟨rfl, ?_⟩
            refine tyes_go ?_
            obtain ⟨g2253, hw⟩ := cW_grd hw
            refine ⟨_, rfl, _, rfl, _, _, rfl, rfl, (.inl ⟨by decide, by decide⟩), _, rfl, _, _, rfl, rfl, _, _, rfl, rfl, (show (0 : Int) < 24 by decide), _, _, _, _, rfl, rfl, (SqL.of h2248), (atI_map g2253), _, h2237, (app_lenM z2250), ?_⟩
            generalize g2254 : upd H2235 D2221 _ = H2255
            obtain ⟨x2256, h2257⟩ := gen_mut g2254
            have S2258 := S2236.mut1 x2256 (.head _) h2257
            have hw := cW_ok hw
            have h2259 := (x2256 _ _ h2247 (ne_of_none h2203 n2222))
            have h2260 := (x2256 _ _ h2248 (ne_of_none h2204 n2222))
            have h2261 := (x2256 _ _ h2249 (ne_of_none h2205 n2222))
            exact ⟨_, (acc2240 ++ [(itD (v2169) ((((7 * x2209) + x2251) % 24)))]), eG2239, S2258, h2259, h2260, h2261, (snoc_map h2257), (same_mut eo2246 x2256 n2222), hw⟩
          intro H2262 hw
          obtain ⟨G2265, acc2267, eG2266, S2263, h2274, h2275, h2276, h2264, eo2273, hw⟩ := hw
          have hw := hK2220 _ (cW_mapA0 (rng_len _ _).symm hw)
          have fr2277 := S2202.free n2222
          obtain ⟨g2278, hw⟩ := cW_grd hw
          obtain ⟨G2279, eG2280, hg2281, S2282⟩ := Sep.freeze (O' := [p2114, p2172, p2178]) S2263 (.head _) h2264 fr2277 ((all_cons ⟨(.tail _ (.head _)), (ne_of_none h2203 n2222)⟩ (all_cons ⟨(.tail _ (.tail _ (.head _))), (ne_of_none h2204 n2222)⟩ (all_cons ⟨(.tail _ (.tail _ (.tail _ (.head _)))), (ne_of_none h2205 n2222)⟩ all_nil))))
          refine ⟨_, _, _, rfl, rfl, h2276, (app_len (RpAll.mono eG2280 (RpAll.mono eG2266 d2206)) g2278), ?_⟩
          generalize g2283 : upd H2262 p2178 _ = H2284
          obtain ⟨x2285, h2286⟩ := gen_mut g2283
          have h2287 : H2284 p2178 = some (.lst (vs2197 ++ [V.ref D2221])) := h2286
          have S2288 := S2282.mut1 x2285 (.tail _ (.tail _ (.head _))) h2287
          have d2289 : RpAll G2279 (vs2197 ++ [V.ref D2221]) (((rows_2196) ++ [acc2267] : (List (List Int))).map (encL PyData.int)) := app_map (RpAll.mono eG2280 (RpAll.mono eG2266 d2206)) (RpAll.one (rp_mk_ints hg2281))
          have hw := cW_bnd hw
          have hw := cW_ok hw
          have hw := hK2212 _ hw
          have h2291 := (x2285 _ _ h2274 (ne_of_none (e2171 _ _ (e2155 _ _ h2144)) n2179))
          have h2292 := (x2285 _ _ h2275 (ne_of_none h2175 n2179))
          exact ⟨((rows_2196) ++ [acc2267]), _, _, _, rfl, (Same.trans (Same.trans eG2208 eG2266) eG2280), S2288, h2291, h2292, h2287, d2289, hw⟩
        · have hw := cW_neg c2214 hw
          refine ⟨_, rfl, _, _, rfl, rfl, (divW_lit (by decide) (by decide)), _, _, rfl, rfl, (show (0 : Int) < 3 by decide), _, _, rfl, rfl, _, rfl, ?_⟩
          refine iteD (fun c2293 => ?_) (fun c2293 => ?_)
          · have hw := cW_pos c2293 hw
            obtain ⟨g2294, hw⟩ := cW_grd hw
            obtain ⟨K2299, hK2300, hw⟩ := cW_push hw
            refine ⟨_, rfl, (.inl ⟨rfl, _, SqL.of h2205⟩), _, rfl, _, _, _, _, rfl, rfl, (SqT.of (S2202.sG _ _ (eG2208 _ _ h2164))), rfl, _, rfl, g2294.1, g2294.2, fun D2301 n2302 => lc_range (lo := 0) (n := Int.toNat (v2153.1)) (fun i H' => ∃ (G' : Hp) (acc2304 : (List Int)), Same G2207 G' ∧ Sep [] H G G' H' [D2301, p2114, p2172, p2178] ∧ H' p2114 = some (.lst (vs2135)) ∧ H' p2172 = some (.lst ((v2169 : (List Int)).map V.int)) ∧ H' p2178 = some (.lst (vs2197)) ∧ H' D2301 = some (.lst ((acc2304 : (List Int)).map V.int)) ∧ Same H2201 H' ∧ cW (mapA (List.drop i (rng (0) (Int.toNat (v2153.1)))) acc2304 (fun x => noEr (F__law_planes_c4 (cell') (top') (x2209) x))) K2299 EE) ?_ ?_ ?_⟩
            · generalize g2306 : upd H2201 D2301 _ = H2307
              obtain ⟨e2308, h2309⟩ := gen_new n2302 g2306
              have fr2310 := S2202.free n2302
              have S2311 := S2202.new n2302 e2308 h2309 fr2310
              have h2312 := (e2308 _ _ h2203)
              have h2313 := (e2308 _ _ h2204)
              have h2314 := (e2308 _ _ h2205)
              exact ⟨_, [], Same.refl _, S2311, h2312, h2313, h2314, h2309, e2308, hw⟩
            · intro i H2315 hi hw
              obtain ⟨G2318, acc2320, eG2319, S2316, h2327, h2328, h2329, h2317, eo2326, hw⟩ := hw
              obtain ⟨z2330, hw⟩ := cW_mapA (rng_get hi) hw
              generalize (0 + (i : Int)) = x2331 at hw ⊢
              have hw := cW_noEr hw
              have hw : cW (F__law_planes_c4 (cell') (top') (x2209) (x2331)) _ (fun _ => False) := hw
              unfold F__law_planes_c4 at hw
              refine ⟨rfl, ?_⟩
              refine tyes_go ?_
              refine ⟨_, rfl, _, rfl, _, _, rfl, rfl, (.inl ⟨by decide, by decide⟩), _, _, rfl, rfl, _, rfl, _, _, rfl, rfl, (.inl ⟨by decide, by decide⟩), _, _, rfl, rfl, .inl ⟨_, rfl, ?_⟩⟩
              obtain ⟨g2333, hw⟩ := cW_grd hw
              refine ⟨_, rfl, _, _, rfl, rfl, _, _, rfl, rfl, g2333, _, h2317, (app_lenM z2330), ?_⟩
              generalize g2334 : upd H2315 D2301 _ = H2335
              obtain ⟨x2336, h2337⟩ := gen_mut g2334
              have S2338 := S2316.mut1 x2336 (.head _) h2337
              have hw := cW_ok hw
              have h2339 := (x2336 _ _ h2327 (ne_of_none h2203 n2302))
              have h2340 := (x2336 _ _ h2328 (ne_of_none h2204 n2302))
              have h2341 := (x2336 _ _ h2329 (ne_of_none h2205 n2302))
              exact ⟨_, (acc2320 ++ [(((cell' + (9 * x2331)) + (5 * x2209)) % (top' + 1))]), eG2319, S2338, h2339, h2340, h2341, (snoc_map h2337), (same_mut eo2326 x2336 n2302), hw⟩
            intro H2342 hw
            obtain ⟨G2345, acc2347, eG2346, S2343, h2354, h2355, h2356, h2344, eo2353, hw⟩ := hw
            have hw := hK2300 _ (cW_mapA0 (rng_len _ _).symm hw)
            have fr2357 := S2202.free n2302
            obtain ⟨g2358, hw⟩ := cW_grd hw
            obtain ⟨G2359, eG2360, hg2361, S2362⟩ := Sep.freeze (O' := [p2114, p2172, p2178]) S2343 (.head _) h2344 fr2357 ((all_cons ⟨(.tail _ (.head _)), (ne_of_none h2203 n2302)⟩ (all_cons ⟨(.tail _ (.tail _ (.head _))), (ne_of_none h2204 n2302)⟩ (all_cons ⟨(.tail _ (.tail _ (.tail _ (.head _)))), (ne_of_none h2205 n2302)⟩ all_nil))))
            refine ⟨_, _, _, rfl, rfl, h2356, (app_len (RpAll.mono eG2360 (RpAll.mono eG2346 d2206)) g2358), ?_⟩
            generalize g2363 : upd H2342 p2178 _ = H2364
            obtain ⟨x2365, h2366⟩ := gen_mut g2363
            have h2367 : H2364 p2178 = some (.lst (vs2197 ++ [V.ref D2301])) := h2366
            have S2368 := S2362.mut1 x2365 (.tail _ (.tail _ (.head _))) h2367
            have d2369 : RpAll G2359 (vs2197 ++ [V.ref D2301]) (((rows_2196) ++ [acc2347] : (List (List Int))).map (encL PyData.int)) := app_map (RpAll.mono eG2360 (RpAll.mono eG2346 d2206)) (RpAll.one (rp_mk_ints hg2361))
            have hw := cW_bnd hw
            have hw := cW_ok hw
            have hw := hK2212 _ hw
            have h2371 := (x2365 _ _ h2354 (ne_of_none (e2171 _ _ (e2155 _ _ h2144)) n2179))
            have h2372 := (x2365 _ _ h2355 (ne_of_none h2175 n2179))
            exact ⟨((rows_2196) ++ [acc2347]), _, _, _, rfl, (Same.trans (Same.trans eG2208 eG2346) eG2360), S2368, h2371, h2372, h2367, d2369, hw⟩
          · have hw := cW_neg c2293 hw
            obtain ⟨g2373, hw⟩ := cW_grd hw
            obtain ⟨K2378, hK2379, hw⟩ := cW_push hw
            refine ⟨_, rfl, (.inl ⟨rfl, _, SqL.of h2205⟩), _, rfl, _, _, _, _, rfl, rfl, (SqT.of (S2202.sG _ _ (eG2208 _ _ h2164))), rfl, _, rfl, g2373.1, g2373.2, fun D2380 n2381 => lc_range (lo := 0) (n := Int.toNat (v2153.1)) (fun i H' => ∃ (G' : Hp) (acc2383 : (List Int)), Same G2207 G' ∧ Sep [] H G G' H' [D2380, p2114, p2172, p2178] ∧ H' p2114 = some (.lst (vs2135)) ∧ H' p2172 = some (.lst ((v2169 : (List Int)).map V.int)) ∧ H' p2178 = some (.lst (vs2197)) ∧ H' D2380 = some (.lst ((acc2383 : (List Int)).map V.int)) ∧ Same H2201 H' ∧ cW (mapA (List.drop i (rng (0) (Int.toNat (v2153.1)))) acc2383 (fun x => noEr (F__law_planes_c5 (top') (v2169) (x2209) x))) K2378 EE) ?_ ?_ ?_⟩
            · generalize g2385 : upd H2201 D2380 _ = H2386
              obtain ⟨e2387, h2388⟩ := gen_new n2381 g2385
              have fr2389 := S2202.free n2381
              have S2390 := S2202.new n2381 e2387 h2388 fr2389
              have h2391 := (e2387 _ _ h2203)
              have h2392 := (e2387 _ _ h2204)
              have h2393 := (e2387 _ _ h2205)
              exact ⟨_, [], Same.refl _, S2390, h2391, h2392, h2393, h2388, e2387, hw⟩
            · intro i H2394 hi hw
              obtain ⟨G2397, acc2399, eG2398, S2395, h2406, h2407, h2408, h2396, eo2405, hw⟩ := hw
              obtain ⟨z2409, hw⟩ := cW_mapA (rng_get hi) hw
              generalize (0 + (i : Int)) = x2410 at hw ⊢
              have hw := cW_noEr hw
              have hw : cW (F__law_planes_c5 (top') (v2169) (x2209) (x2410)) _ (fun _ => False) := hw
              unfold F__law_planes_c5 at hw
              refine ⟨rfl, ?_⟩
              refine tyes_go ?_
              obtain ⟨g2412, hw⟩ := cW_grd hw
              refine ⟨_, rfl, _, _, _, _, rfl, rfl, (SqL.of h2407), (atI_map g2412), _, rfl, _, _, rfl, rfl, (divW_lit (by decide) (by decide)), _, rfl, _, _, rfl, rfl, (divW_lit (by decide) (by decide)), _, _, rfl, rfl, _, _, rfl, rfl, (.inr ⟨by decide, by decide⟩), _, _, rfl, rfl, .inl ⟨_, rfl, ?_⟩⟩
              obtain ⟨g2413, hw⟩ := cW_grd hw
              refine ⟨_, rfl, _, _, rfl, rfl, _, _, rfl, rfl, g2413, _, h2396, (app_lenM z2409), ?_⟩
              generalize g2414 : upd H2394 D2380 _ = H2415
              obtain ⟨x2416, h2417⟩ := gen_mut g2414
              have S2418 := S2395.mut1 x2416 (.head _) h2417
              have hw := cW_ok hw
              have h2419 := (x2416 _ _ h2406 (ne_of_none h2203 n2381))
              have h2420 := (x2416 _ _ h2407 (ne_of_none h2204 n2381))
              have h2421 := (x2416 _ _ h2408 (ne_of_none h2205 n2381))
              exact ⟨_, (acc2399 ++ [(((itD (v2169) (0)) + (((x2410 / 3) + (x2209 / 3)) * 40)) % (top' + 1))]), eG2398, S2418, h2419, h2420, h2421, (snoc_map h2417), (same_mut eo2405 x2416 n2381), hw⟩
            intro H2422 hw
            obtain ⟨G2425, acc2427, eG2426, S2423, h2434, h2435, h2436, h2424, eo2433, hw⟩ := hw
            have hw := hK2379 _ (cW_mapA0 (rng_len _ _).symm hw)
            have fr2437 := S2202.free n2381
            obtain ⟨g2438, hw⟩ := cW_grd hw
            obtain ⟨G2439, eG2440, hg2441, S2442⟩ := Sep.freeze (O' := [p2114, p2172, p2178]) S2423 (.head _) h2424 fr2437 ((all_cons ⟨(.tail _ (.head _)), (ne_of_none h2203 n2381)⟩ (all_cons ⟨(.tail _ (.tail _ (.head _))), (ne_of_none h2204 n2381)⟩ (all_cons ⟨(.tail _ (.tail _ (.tail _ (.head _)))), (ne_of_none h2205 n2381)⟩ all_nil))))
            refine ⟨_, _, _, rfl, rfl, h2436, (app_len (RpAll.mono eG2440 (RpAll.mono eG2426 d2206)) g2438), ?_⟩
            generalize g2443 : upd H2422 p2178 _ = H2444
            obtain ⟨x2445, h2446⟩ := gen_mut g2443
            have h2447 : H2444 p2178 = some (.lst (vs2197 ++ [V.ref D2380])) := h2446
            have S2448 := S2442.mut1 x2445 (.tail _ (.tail _ (.head _))) h2447
            have d2449 : RpAll G2439 (vs2197 ++ [V.ref D2380]) (((rows_2196) ++ [acc2427] : (List (List Int))).map (encL PyData.int)) := app_map (RpAll.mono eG2440 (RpAll.mono eG2426 d2206)) (RpAll.one (rp_mk_ints hg2441))
            have hw := cW_bnd hw
            have hw := cW_ok hw
            have hw := hK2212 _ hw
            have h2451 := (x2445 _ _ h2434 (ne_of_none (e2171 _ _ (e2155 _ _ h2144)) n2179))
            have h2452 := (x2445 _ _ h2435 (ne_of_none h2175 n2179))
            exact ⟨((rows_2196) ++ [acc2427]), _, _, _, rfl, (Same.trans (Same.trans eG2208 eG2426) eG2440), S2448, h2451, h2452, h2447, d2449, hw⟩
      · intro σ H2453 hw
        obtain ⟨rows_2196, vs2197, u2198, G2459, rfl, eG2460, S2454, h2455, h2456, h2457, d2458, hw⟩ := hw
        have hw := hK2195 _ (cW_forS0 (rng_len _ _).symm hw)
        have hw : cW (F__law_planes_r2 (planes_2134) (rows_2196)) _ EE := hw
        unfold F__law_planes_r2 at hw
        obtain ⟨g2462, hw⟩ := cW_grd hw
        refine ⟨_, rfl, (.inl ⟨rfl, _, SqL.of h2455⟩), _, rfl, ?_⟩
        obtain ⟨G2463, eG2464, hg2465, S2466⟩ := Sep.freeze (O' := [p2114, p2172]) S2454 (.tail _ (.tail _ (.head _))) h2457 fr2185 ((all_cons ⟨(.head _), (ne_of_none (e2171 _ _ (e2155 _ _ h2144)) n2179)⟩ (all_cons ⟨(.tail _ (.head _)), (ne_of_none h2175 n2179)⟩ all_nil)))
        refine ⟨_, _, _, rfl, rfl, h2455, (app_len (RpAll.mono eG2464 (RpAll.mono eG2460 (RpAll.mono eG2158 d2145))) g2462), ?_⟩
        generalize g2467 : upd H2453 p2114 _ = H2468
        obtain ⟨x2469, h2470⟩ := gen_mut g2467
        have h2471 : H2468 p2114 = some (.lst (vs2135 ++ [V.ref p2178])) := h2470
        have S2472 := S2466.mut1 x2469 (.head _) h2471
        have d2473 : RpAll G2463 (vs2135 ++ [V.ref p2178]) (((planes_2134) ++ [rows_2196] : (List (List (List Int)))).map (encL (encL PyData.int))) := app_map (RpAll.mono eG2464 (RpAll.mono eG2460 (RpAll.mono eG2158 d2145))) (RpAll.one (rp_mk_list hg2465 (RpAll.mono eG2464 d2458)))
        have hw := cW_bnd hw
        have hw := cW_ok hw
        have hw := hK2151 _ hw
        exact ⟨((planes_2134) ++ [rows_2196]), _, _, _, _, _, _, _, rfl, (Same.trans (Same.trans (Same.trans eG2147 eG2158) eG2460) eG2464), (S2472.sub (all_cons (.head _) all_nil)), h2471, d2473, hw⟩
    · intro σ H2475 hw
      obtain ⟨planes_2134, vs2135, u2136, u2137, u2138, u2139, u2140, G2479, rfl, eG2480, S2476, h2477, d2478, hw⟩ := hw
      have hw := hK2133 _ (cW_forS0 (rng_len _ _).symm hw)
      have hw : cW (F__law_planes_r1  (planes_2134)) _ EE := hw
      unfold F__law_planes_r1 at hw
      refine ⟨_, rfl, ?_⟩
      obtain ⟨G2482, eG2483, hg2484, S2485⟩ := Sep.freeze (O' := []) S2476 (.head _) h2477 fr2121 (all_nil)
      have hw := cW_ok hw
      exact hK0 _ hw _ _ _ S2485.b0 S2485.g0 S2485.sG S2485.gn (rp_mk_list hg2484 (RpAll.mono eG2483 d2478))

abbrev N_law : List Str := ["script", "first", "fmt", "count", "settings", "due", "told", "slots", "k", "cell", "header", "kept", "references", "slot", "others", "here", "last", "rows", "row"]
theorem sc_law : FnScope N_law ["script"] (defScope s_law) := ⟨rfl, rfl, rfl, by decide +kernel, rfl, by decide +kernel, by decide +kernel⟩
theorem ok_law {f : Addr} {fd : FuncData} (F : FunD K "law" "law" (defArgs s_law) (defBody s_law) (defScope s_law) [] [] f fd) (T : Txt w K mg AD) (c__law_digits : CalX P w K mg base 1 "_law_digits" (sp__law_digits K AD) pats__law_digits) (c__law_cell : CalX P w K mg base 1 "_law_cell" (sp__law_cell K AD) pats__law_cell) (c_Format___init__ : MakX P w K mg base 1 "Format" AD.c_Format (sp_Format___init__ K AD) pats_Format___init__) (c_Settings___init__ : MakX P w K mg base 2 "Settings" AD.c_Settings (sp_Settings___init__ K AD) pats_Settings___init__) (c__law_middle : CalX P w K mg base 5 "_law_middle" (sp__law_middle K AD) pats__law_middle) (c_middle_planes : CalX P w K mg base 8 "middle_planes" (sp_middle_planes K AD) pats_middle_planes) (c__law_planes : CalX P w K mg base 5 "_law_planes" (sp__law_planes K AD) pats__law_planes) (c_Format_top : PropY P w K mg base 1 AD.c_Format "top" (sp_Format_top K AD) pats_Format_top) (c__law_header : CalX P w K mg base 5 "_law_header" (sp__law_header K AD) pats__law_header) (c_references_of : CalX P w K mg base 10 "references_of" (sp_references_of K AD) pats_references_of) : FnG P w K mg base CX0 11 f fd ["script"] (sp_law K AD) := by
  refine FnG.bodyN F sc_law (fun vs H Q E h => ?_) (fun cdv A_ outer s H vs Q E hr h => ?_)
  · obtain ⟨a_script, script, rfl, _⟩ := h
    rfl
  · obtain ⟨a_script, script', rfl, q_script, hw, k⟩ := h
    refine ⟨_, (pss_cons (ps_set (i := 1) sc_law.nd rfl (Or.inl rfl) (vx_callX c__law_digits pat__law_digits_0 (.head _) hr (by decide) takes0 rfl (pa_cons (vx_callX c__law_cell pat__law_cell_0 (.head _) hr (by decide) takes0 rfl (pa_cons (pv 0) (pa_cons pe_int pa_nil)) pk_nil) (pa_cons pe_int (pa_cons pe_int pa_nil))) pk_nil))
      (pss_cons (ps_set (i := 2) sc_law.nd rfl (Or.inl rfl) (vx_makeX c_Format___init__ pat_Format___init___0 (.head _) hr (by decide) takes0 rfl (pa_cons (pe_op op_add pe_int (pe_op op_mod (pe_ix (ix_listK (K := K)) (pv 1) pe_int (fun _ _ => rfl)) pe_int)) (pa_cons (pe_op op_add pe_int (pe_op op_mod (pe_ix (ix_listK (K := K)) (pv 1) pe_int (fun _ _ => rfl)) pe_int)) pa_nil)) (pk_cons (pe_op op_add pe_int (pe_op op_mod (pe_ix (ix_listK (K := K)) (pv 1) pe_int (fun _ _ => rfl)) pe_int)) (pk_cons (pe_op op_mod (pe_ix (ix_listK (K := K)) (pv 1) pe_int (fun _ _ => rfl)) pe_int) pk_nil))))
      (pss_cons (ps_set (i := 3) sc_law.nd rfl (Or.inl rfl) (pe_op op_add pe_int (pe_op op_mod (pe_ix (ix_listK (K := K)) (pv 1) pe_int (fun _ _ => rfl)) pe_int)))
      (pss_cons (ps_set (i := 4) sc_law.nd rfl (Or.inl rfl) (vx_makeX c_Settings___init__ pat_Settings___init___0 (.head _) hr (by decide) takes0 rfl (pa_cons (pv 2) pa_nil) (pk_cons (pv 3) pk_nil)))
      (pss_cons (ps_set (i := 5) sc_law.nd rfl (Or.inl rfl) (vx_callX c__law_middle pat__law_middle_0 (.head _) hr (by decide) takes0 rfl (pa_cons (pv 2) pa_nil) pk_nil))
      (pss_cons (ps_set (i := 6) sc_law.nd rfl (Or.inl rfl) (vx_callX c_middle_planes pat_middle_planes_0 (.head _) hr (by decide) takes0 rfl (pa_cons (pv 2) pa_nil) pk_nil))
      (pss_cons (ps_if (PW.pt (pw_or (pt_not (pt_val (pe_callB call_isi (by rfl) T.b_isinstance (by decide +kernel) (pa_cons (pv 6) (pa_cons (pe_bltn (v := V.ty "list") (u := Value.type "list") (by rfl) T.b_list (by decide +kernel) rfl) pa_nil))))) (pw_or1 (pt_cmpR (op_neT (encOk_L (encOk_L (encOk_L encOk_int))) hr.units) (pv 6) (pv 5) (nomark _))))) (pss_one (ps_ret pe_bl)) pss_nil)
      (pss_cons (ps_asg (pe_un un_neg pe_int) (pg_sub (pe_ix (ix_listK (K := K)) (pe_ix (ix_listK (K := K)) (pv 6) pe_int (fun _ _ => rfl)) pe_int (fun _ _ => rfl)) pe_int set_list))
      (pss_cons (ps_if (pt_cmpR (op_neT (encOk_L (encOk_L (encOk_L encOk_int))) hr.units) (vx_callX c_middle_planes pat_middle_planes_0 (.head _) hr (by decide) takes0 rfl (pa_cons (pv 2) pa_nil) pk_nil) (pv 5) (nomark _)) (pss_one (ps_ret pe_bl)) pss_nil)
      (pss_cons (ps_set (i := 7) sc_law.nd rfl (Or.inl rfl) (pe_lst pa_nil))
      (pss_cons (ps_for PassesOwn.never rfl (pi_range1 rfl T.b_range (pa_cons (pv 3) pa_nil)) (pg_name (i := 8) sc_law.nd rfl (Or.inl rfl)) (pss_cons (ps_set (i := 9) sc_law.nd rfl (Or.inl rfl) (pe_op op_add (vx_callX c__law_cell pat__law_cell_0 (.head _) hr (by decide) takes0 rfl (pa_cons (pv 0) (pa_cons (pe_op op_add pe_int (pv 8)) pa_nil)) pk_nil) (pv 8)))
      (pss_one (ps_if (pt_cmp (pc_eqI (pe_op op_mod (pv 9) pe_int) pe_int)) (pss_one (ps_expr (pe_bm PySem.F.plainAttrs_list PySem.F.slot_list_append PySem.F.type_list_append mt_append (pv 7) (pa_cons pe_non pa_nil)))) (pss_one (ps_expr (pe_bm PySem.F.plainAttrs_list PySem.F.slot_list_append PySem.F.type_list_append mt_append (pv 7) (pa_cons (vx_callX c__law_planes pat__law_planes_0 (.head _) hr (by decide) takes0 rfl (pa_cons (pe_op op_fdivW (pv 9) pe_int) (pa_cons (pv 2) (pa_cons (vx_propX c_Format_top hr (by decide) (pv 2)) pa_nil))) pk_nil) pa_nil))))))))
      (pss_cons (ps_set (i := 10) sc_law.nd rfl (Or.inl rfl) (vx_callX c__law_header pat__law_header_0 (.head _) hr (by decide) takes0 rfl (pa_cons (pv 4) (pa_cons (vx_callX c__law_cell pat__law_cell_0 (.head _) hr (by decide) takes0 rfl (pa_cons (pv 0) (pa_cons pe_int pa_nil)) pk_nil) (pa_cons (pv 3) (pa_cons pe_bl pa_nil)))) pk_nil))
      (pss_cons (ps_set (i := 11) sc_law.nd rfl (Or.inl rfl) (pe_callB (call_reprD hr.gd hr.units) (by rfl) T.b_repr (by decide +kernel) (pa_cons (pv 7) pa_nil)))
      (pss_cons (ps_set (i := 12) sc_law.nd rfl (Or.inl rfl) (vx_callX c_references_of pat_references_of_0 (.head _) hr (by decide) takes0 rfl (pa_cons (pv 4) (pa_cons (pv 10) (pa_cons (pv 7) pa_nil))) pk_nil))
      (pss_cons (ps_if (PW.pt (pw_or (pt_not (pt_val (pe_callB call_isi (by rfl) T.b_isinstance (by decide +kernel) (pa_cons (pv 12) (pa_cons (pe_bltn (v := V.ty "list") (u := Value.type "list") (by rfl) T.b_list (by decide +kernel) rfl) pa_nil))))) (pw_or (pt_cmp (pc_neI (pe_callB (call_lenLK (K := K)) (by rfl) T.b_len (by decide +kernel) (pa_cons (pv 12) pa_nil)) (pe_callB (call_lenLiK (K := K)) (by rfl) T.b_len (by decide +kernel) (pa_cons (fldK (K := K) (pv 10)) pa_nil)))) (pw_or1 (pt_cmpR op_ne (pe_callB (call_reprD hr.gd hr.units) (by rfl) T.b_repr (by decide +kernel) (pa_cons (pv 7) pa_nil)) (pv 11) (nomark _)))))) (pss_one (ps_ret pe_bl)) pss_nil)
      (pss_cons (ps_for PassesOwn.never rfl (pi_range1 rfl T.b_range (pa_cons (pe_callB (call_lenLK (K := K)) (by rfl) T.b_len (by decide +kernel) (pa_cons (pv 12) pa_nil)) pa_nil)) (pg_name (i := 8) sc_law.nd rfl (Or.inl rfl)) (pss_cons (ps_set (i := 13) sc_law.nd rfl (Or.inl rfl) (pe_ix (ix_listK (K := K)) (pv 7) (pe_ix (ix_listK (K := K)) (fldK (K := K) (pv 10)) (pv 8) (fun _ _ => rfl)) (fun _ _ => rfl)))
      (pss_one (ps_if (pt_cmpR (op_neDD hr.units) (pe_ix (ix_listK (K := K)) (pv 12) (pv 8) (fun _ _ => rfl)) (pe_ifExp (pt_cmpR op_isND (pv 13) pe_non (nomark _)) (pv 5) (pv 13)) (nomark _)) (pss_one (ps_ret pe_bl)) pss_nil))))
      (pss_cons (ps_for PassesOwn.never rfl (pi_range1 rfl T.b_range (pa_cons (pe_callB (call_lenLK (K := K)) (by rfl) T.b_len (by decide +kernel) (pa_cons (pv 12) pa_nil)) pa_nil)) (pg_name (i := 8) sc_law.nd rfl (Or.inl rfl)) (pss_cons (ps_set (i := 14) sc_law.nd rfl (Or.inl rfl) (pe_callB (call_reprD hr.gd hr.units) (by rfl) T.b_repr (by decide +kernel) (pa_cons (pe_op op_cat (pe_slice (sl_listK (K := K)) (pv 12) po_none (po_some (pv 8))) (pe_slice (sl_listK (K := K)) (pv 12) (po_some (pe_op op_add (pv 8) pe_int)) po_none)) pa_nil)))
      (pss_cons (ps_setLc (i := 15) (y := "here") rfl sc_law.nd rfl rfl (sw_true rfl rfl rfl (by decide +kernel)) (own := [("rows", 17)]) (g := gName 17) (pi_listK (K := K) (pe_ix (ix_listK (K := K)) (pv 12) (pv 8) (fun _ _ => rfl))) (blkOk_by (own := [("rows", 17)]) (N := N_law) (sc := defScope s_law) (by decide +kernel)) (fun _ _ _ _ _ => (pg_name (i := 17) sc_law.nd rfl (Or.inl rfl))) (fun _ _ _ _ _ => pts_nil) (fun _ _ _ _ _ => (pe_lc (own := [("row", 18)]) (g := gName 18) (by rfl) sc_law.nd (pi_listK (K := K) (pv 17)) (blk_relabel (blkOk_by (own := [("row", 18)]) (N := N_law) (by decide +kernel))) (fun _ _ _ _ _ => (pg_name (i := 18) sc_law.nd rfl (Or.inl rfl))) (fun _ _ _ _ _ => pts_nil) (fun _ _ _ _ _ => (pe_callTy (call_listLK (K := K)) (by rfl) T.b_list (by decide +kernel) (pa_cons (pv 18) pa_nil))))))
      (pss_cons (ps_set (i := 16) sc_law.nd rfl (Or.inl rfl) (pe_op op_sub (pe_callB (call_lenLK (K := K)) (by rfl) T.b_len (by decide +kernel) (pa_cons (pe_ix (ix_listK (K := K)) (pv 12) (pv 8) (fun _ _ => rfl)) pa_nil)) pe_int))
      (pss_cons (ps_asg (pe_un un_neg pe_int) (pg_sub (pe_ix (ix_listK (K := K)) (pe_ix (ix_listK (K := K)) (pe_ix (ix_listK (K := K)) (pv 12) (pv 8) (fun _ _ => rfl)) (pv 16) (fun _ _ => rfl)) (pe_op op_sub (pe_callB (call_lenLK (K := K)) (by rfl) T.b_len (by decide +kernel) (pa_cons (pe_ix (ix_listK (K := K)) (pv 15) (pv 16) (fun _ _ => rfl)) pa_nil)) pe_int) (fun _ _ => rfl)) pe_int set_list))
      (pss_cons (ps_asg (pe_un un_neg pe_int) (pg_sub (pe_ix (ix_listK (K := K)) (pe_ix (ix_listK (K := K)) (pv 15) (pv 16) (fun _ _ => rfl)) (pe_op op_sub (pe_callB (call_lenLK (K := K)) (by rfl) T.b_len (by decide +kernel) (pa_cons (pe_ix (ix_listK (K := K)) (pv 15) (pv 16) (fun _ _ => rfl)) pa_nil)) pe_int) (fun _ _ => rfl)) pe_int set_list))
      (pss_one (ps_if (PW.pt (pw_or (pt_cmpR (op_neT (encOk_L (encOk_L (encOk_L encOk_int))) hr.units) (pe_ix (ix_listK (K := K)) (pv 12) (pv 8) (fun _ _ => rfl)) (pv 15) (nomark _)) (pw_or1 (pt_cmpR op_ne (pe_callB (call_reprD hr.gd hr.units) (by rfl) T.b_repr (by decide +kernel) (pa_cons (pe_op op_cat (pe_slice (sl_listK (K := K)) (pv 12) po_none (po_some (pv 8))) (pe_slice (sl_listK (K := K)) (pv 12) (po_some (pe_op op_add (pv 8) pe_int)) po_none)) pa_nil)) (pv 14) (nomark _))))) (pss_one (ps_ret pe_bl)) pss_nil))))))))
      (pss_one (ps_ret (pe_and (pe_cmpR op_eq (pe_callB (call_reprD hr.gd hr.units) (by rfl) T.b_repr (by decide +kernel) (pa_cons (pv 7) pa_nil)) (pv 11) (nomark _)) (pe_one (pe_cmpR (op_eqT (encOk_L (encOk_L (encOk_L encOk_int))) hr.units) (vx_callX c_middle_planes pat_middle_planes_0 (.head _) hr (by decide) takes0 rfl (pa_cons (pv 2) pa_nil) pk_nil) (pv 5) (nomark _))))))))))))))))))))))), ?_⟩
    obtain ⟨KK, EE, hK0, hE, hw⟩ := cW_gen hw
    have S0 := Sep.start0 H
    unfold F_law at hw
    refine ⟨_, rfl, rfl, rfl, H, _, _, _, rfl, S0.sG, (S0.b0.seq q_script), cW_call hw (fun v2486 hw => ?_) (fun e he => (hE e he).elim)⟩
    refine ⟨rfl, rfl, H, _, _, _, rfl, S0.sG, cW_call hw (fun v2487 hw p2490 H2488 n2491 e2489 h2492 => ?_) (fun e he => (hE e he).elim)⟩
    have h2493 : H2488 p2490 = some (.lst ((v2487 : (List Int)).map V.int)) := h2492
    have fr2494 := S0.free n2491
    have S2495 := S0.new n2491 e2489 h2493 fr2494
    obtain ⟨g2496, hw⟩ := cW_grd hw
    obtain ⟨g2497, hw⟩ := cW_grd hw
    obtain ⟨g2498, hw⟩ := cW_grd hw
    obtain ⟨g2499, hw⟩ := cW_grd hw
    refine ⟨_, rfl, _, _, _, _, rfl, rfl, (SqL.of h2493), (atI_map g2496), _, _, rfl, rfl, (show (0 : Int) < 16 by decide), _, _, rfl, rfl, _, rfl, _, _, _, _, rfl, rfl, (SqL.of h2493), (atI_map g2497), _, _, rfl, rfl, (show (0 : Int) < 16 by decide), _, _, rfl, rfl, _, rfl, _, _, _, _, rfl, rfl, (SqL.of h2493), (atI_map g2498), _, _, rfl, rfl, (show (0 : Int) < 5 by decide), _, _, rfl, rfl, _, rfl, _, _, _, _, rfl, rfl, (SqL.of h2493), (atI_map g2499), _, _, rfl, rfl, (show (0 : Int) < 3 by decide), rfl, rfl, fun x2500 dx2501 n2502 n2503 n2504 => ?_⟩
    generalize g2505 : upd (upd H2488 dx2501 _) x2500 _ = H2506
    obtain ⟨e2507, h2508⟩ := gen_obj n2502 n2503 n2504 g2505
    have fr2509 := S2495.free n2502
    have S2510 := S2495.new n2502 e2507 h2508 fr2509
    refine ⟨H, _, _, _, _, _, _, rfl, S2510.sG, (S2510.gno (all_cons (.head _) all_nil)), h2508, cW_call hw (fun v2511 hw H2512 x2513 h2514 => ⟨rfl, ?_⟩) (fun e he => (hE e he).elim)⟩
    have S2515 : Sep _ _ _ _ H2512 [x2500, p2490] := Sep.init S2510 x2513 (.head _) h2514 [] all_nil
    obtain ⟨g2516, hw⟩ := cW_grd hw
    have h2517 := ((SameXs.of x2513) _ _ (e2507 _ _ h2493) (ni1 (ne_of_none h2493 n2502)))
    refine ⟨_, rfl, _, _, _, _, rfl, rfl, (SqL.of h2517), (atI_map g2516), _, _, rfl, rfl, (show (0 : Int) < 4 by decide), _, _, rfl, rfl, ?_⟩
    have hw := cW_bnd hw
    refine ⟨_, rfl, _, rfl, rfl, rfl, fun x2519 dx2520 n2521 n2522 n2523 => ?_⟩
    generalize g2524 : upd (upd H2512 dx2520 _) x2519 _ = H2525
    obtain ⟨e2526, h2527⟩ := gen_obj n2521 n2522 n2523 g2524
    have fr2528 := S2515.free n2521
    have S2529 := S2515.new n2521 e2526 h2527 fr2528
    have h2530 := (e2526 _ _ h2514)
    refine ⟨H, _, _, _, _, v2511, _, _, _, _, _, rfl, S2529.sG, (S2529.gno (all_cons (.head _) all_nil)), h2527, ((hideL_out (ni1 (ne_of_none h2514 n2521))).trans h2530), cW_call hw (fun v2531 hw H2532 x2533 h2534 => ⟨rfl, ?_⟩) (fun e he => (hE e he).elim)⟩
    have S2535 : Sep _ _ _ _ H2532 [x2519, x2500, p2490] := Sep.init S2529 x2533 (.head _) h2534 [] all_nil
    have h2536 := ((SameXs.of x2533) _ _ h2530 (ni1 (ne_of_none h2514 n2521)))
    refine ⟨_, rfl, rfl, rfl, H, _, _, v2511, rfl, S2535.sG, (hide_nil h2536), cW_call hw (fun v2537 hw v2540 H2538 G2541 e2539 eG2542 sG2543 hn2544 r2545 => ?_) (fun e he => (hE e he).elim)⟩
    have S2546 := S2535.step e2539 eG2542 sG2543 hn2544
    obtain ⟨a2547, vs2548, rfl, h2549, d2550⟩ := rp_list r2545
    have h2551 := (e2539 _ _ h2536)
    refine ⟨_, rfl, rfl, rfl, G2541, _, _, v2511, rfl, S2546.sG, (hide_nil h2551), cW_call hw (fun v2552 hw H2553 a2555 vs2556 L2557 G2558 n2559 nb2560 nd2561 e2554 eG2562 sG2563 hn2564 ga2565 gL2566 h2567 w2568 => ?_) (fun e he => (hE e he).elim)⟩
    have fr2569 := S2546.free n2559
    have S2570 : Sep _ _ _ _ H2553 (a2555 :: (L2557 ++ (x2519 :: (x2500 :: (p2490 :: []))))) := Sep.steptree S2546 e2554 eG2562 sG2563 hn2564 (a2555 :: L2557) (all_cons ⟨n2559, ga2565, some_ne h2567⟩ (fun b hb => ⟨nb2560 b hb, gL2566 b hb, OwAll.there w2568 b hb⟩))
    refine ⟨_, rfl, _, _, _, _, _, rfl, (.ty _), (.base (.lst h2567)), rfl, _, rfl, ?_⟩
    refine iteF ?_
    refine ⟨_, rfl, _, rfl, _, _, (rp_mk_list h2567 (OwAll.rpA w2568 (encO_L (encO_L encO_I)) S2570.sG)), (rp_mk_list (S2570.sG _ _ (eG2562 _ _ h2549)) (RpAll.mono S2570.sG (RpAll.mono eG2562 d2550))), _, rfl, ?_⟩
    refine iteN (fun c2571 => ?_) (fun c2571 => ?_)
    · have hw := cW_neg c2571 hw
      have hw := cW_ok hw
      exact eq_bl (k _) (hK0 _ hw).symm
    · have hw := cW_pos c2571 hw
      obtain ⟨g2572, hw⟩ := cW_grd hw
      obtain ⟨v2573, L2574, a2575, w2576, hs2577, up2578, gr2579⟩ := OwAll.partM (k := 0) w2568 g2572
      obtain ⟨b2580, vs2581, L2582, rfl, rfl, h2583, w2584, nb2585⟩ := Ow.toList w2576
      obtain ⟨g2586, hw⟩ := cW_grd hw
      obtain ⟨v2587, L2588, a2589, w2590, hs2591, up2592, gr2593⟩ := OwAll.partM (k := 0) w2584 g2586
      obtain ⟨b2594, rfl, rfl, h2595⟩ := Ow.toInts w2590
      obtain ⟨g2596, hw⟩ := cW_grd hw
      refine ⟨_, rfl, _, rfl, _, _, _, _, rfl, rfl, (SqL.of h2567), a2575, _, _, _, _, rfl, rfl, (SqL.of h2583), a2589, _, _, _, _, rfl, rfl, h2595, (ixN_map g2596), ?_⟩
      generalize g2597 : upd H2553 b2594 _ = H2598
      obtain ⟨x2599, h2600⟩ := gen_mut g2597
      have h2601 : H2598 b2594 = some (.lst ((setL ((itD ((itD (v2552) (0))) (0))) (0) ((-1)) : (List Int)).map V.int)) := set_map h2600
      have S2602 := S2570.mut1 x2599 (((fun b hb => (((fun b hb => (.tail _ (List.mem_append_left _ hb))) : ∀ b ∈ L2557, b ∈ (a2555 :: (L2557 ++ (x2519 :: (x2500 :: (p2490 :: [])))))) : ∀ b ∈ L2557, b ∈ (a2555 :: (L2557 ++ (x2519 :: (x2500 :: (p2490 :: [])))))) b ((fun c hc => hs2577 c (List.mem_cons_of_mem _ hc)) b hb)) : ∀ b ∈ L2582, b ∈ (a2555 :: (L2557 ++ (x2519 :: (x2500 :: (p2490 :: [])))))) _ (hs2591 _ List.mem_cons_self)) h2601
      have w2603 : OwAll G2558 H2598 L2582 (vs2581) ((setL ((itD (v2552) (0))) (0) (setL ((itD ((itD (v2552) (0))) (0))) (0) ((-1))) : (List (List Int))).map (oL oI)) := upd_tree up2592 x2599 List.mem_cons_self (Ow.ints h2601)
      have hw := cW_bnd hw
      have h2605 := (x2599 _ _ h2583 (nb2585 _ (hs2591 _ List.mem_cons_self)).symm)
      have w2606 : OwAll G2558 H2598 L2557 (vs2556) ((setL (v2552) (0) (setL ((itD (v2552) (0))) (0) (setL ((itD ((itD (v2552) (0))) (0))) (0) ((-1)))) : (List (List (List Int)))).map (oL (oL oI))) := upd_tree up2578 x2599 (List.mem_cons_of_mem _ (hs2591 _ List.mem_cons_self)) (Ow.list h2605 w2603 (nb2585 : ∀ b ∈ L2582, b ≠ b2580))
      have hw := cW_bnd hw
      have h2608 := (x2599 _ _ (e2554 _ _ h2551) ((((fun b hb => ((new_ne2 nb2560 (S2546.ow _ (.tail _ (.head _))).2.1) : ∀ b ∈ L2557, b ≠ x2500) b ((fun c hc => hs2577 c (List.mem_cons_of_mem _ hc)) b hb)) : ∀ b ∈ L2582, b ≠ x2500) _ (hs2591 _ List.mem_cons_self))).symm)
      refine ⟨_, rfl, rfl, rfl, G2558, _, _, v2511, rfl, S2602.sG, (hide_nil h2608), cW_call hw (fun v2609 hw H2610 a2612 vs2613 L2614 G2615 n2616 nb2617 nd2618 e2611 eG2619 sG2620 hn2621 ga2622 gL2623 h2624 w2625 => ?_) (fun e he => (hE e he).elim)⟩
      have fr2626 := S2602.free n2616
      have S2627 : Sep _ _ _ _ H2610 (a2612 :: (L2614 ++ (a2555 :: (L2557 ++ (x2519 :: (x2500 :: (p2490 :: []))))))) := Sep.steptree S2602 e2611 eG2619 sG2620 hn2621 (a2612 :: L2614) (all_cons ⟨n2616, ga2622, some_ne h2624⟩ (fun b hb => ⟨nb2617 b hb, gL2623 b hb, OwAll.there w2625 b hb⟩))
      refine ⟨_, rfl, _, _, (rp_mk_list h2624 (OwAll.rpA w2625 (encO_L (encO_L encO_I)) S2627.sG)), (rp_mk_list (S2627.sG _ _ (eG2619 _ _ (eG2562 _ _ h2549))) (RpAll.mono S2627.sG (RpAll.mono eG2619 (RpAll.mono eG2562 d2550)))), _, rfl, ?_⟩
      refine iteN (fun c2628 => ?_) (fun c2628 => ?_)
      · have hw := cW_neg c2628 hw
        have hw := cW_ok hw
        exact eq_bl (k _) (hK0 _ hw).symm
      · have hw := cW_pos c2628 hw
        refine ⟨(by show 0 ≤ sizeLine; decide), fun p2629 n2630 => ?_⟩
        generalize g2631 : upd H2610 p2629 _ = H2632
        obtain ⟨e2633, h2634⟩ := gen_new n2630 g2631
        have h2635 : H2632 p2629 = some (.lst ([])) := h2634
        have fr2636 := S2627.free n2630
        have S2637 := S2627.new n2630 e2633 h2635 fr2636
        have d2638 : RpAll G2615 ([]) ((([] : (List PyData)) : (List PyData)).map encD) := RpAll.nil
        obtain ⟨g2639, hw⟩ := cW_grd hw
        obtain ⟨K2646, hK2647, hw⟩ := cW_push hw
        refine ⟨_, rfl, _, rfl, g2639.1, g2639.2, for_range (lo := 0) (n := Int.toNat ((1 + ((itD (v2487) (4)) % 4)))) (fun i σ H' => ∃ (slots_2648 : (List PyData)) (vs2649 : List V) (u2650 : Option V) (u2651 : Option V) (G' : Hp), σ = [some (V.ref a_script), some (V.ref p2490), some (V.ref x2500), some (V.int ((1 + ((itD (v2487) (4)) % 4)))), some (V.ref x2519), some (V.ref a2547), some (V.ref a2555), some (V.ref p2629), u2650, u2651, none, none, none, none, none, none, none, none, none] ∧ Same G2615 G' ∧ Sep [] H H G' H' (p2490 :: (x2500 :: (x2519 :: (a2555 :: (p2629 :: (L2557 ++ [])))))) ∧ H' p2490 = some (.lst ((v2487 : (List Int)).map V.int)) ∧ H' x2500 = some (.ins AD.c_Format dx2501 [("width", V.int (v2511.width)), ("height", V.int (v2511.height)), ("depth", V.int (v2511.depth)), ("chroma", V.int (v2511.chroma))]) ∧ H' x2519 = some (.ins AD.c_Settings dx2520 [("fmt", V.ref x2500), ("slots", V.int (v2531.slots)), ("rows", V.int (v2531.rows)), ("deblock", V.bl (v2531.deblock)), ("offset", V.bl (v2531.offset)), ("layers", V.int (v2531.layers))]) ∧ H' a2555 = some (.lst (vs2556)) ∧ H' p2629 = some (.lst (vs2649)) ∧ RpAll G' (vs2649) ((slots_2648 : (List PyData)).map encD) ∧ OwAll G' H' L2557 (vs2556) ((setL (v2552) (0) (setL ((itD (v2552) (0))) (0) (setL ((itD ((itD (v2552) (0))) (0))) (0) ((-1)))) : (List (List (List Int)))).map (oL (oL oI))) ∧ cW (forS (List.drop i (rng (0) (Int.toNat ((1 + ((itD (v2487) (4)) % 4)))))) slots_2648 (fun s x => F_law_b1 (script') (v2511) s x)) K2646 EE) ?_ ?_ ?_⟩
        · have h2652 := (e2633 _ _ (e2611 _ _ (x2599 _ _ (e2554 _ _ (e2539 _ _ ((SameXs.of x2533) _ _ (e2526 _ _ h2517) (ni1 (ne_of_none h2517 n2521))))) ((((fun b hb => ((new_ne2 nb2560 (S2546.ow _ (.tail _ (.tail _ (.head _)))).2.1) : ∀ b ∈ L2557, b ≠ p2490) b ((fun c hc => hs2577 c (List.mem_cons_of_mem _ hc)) b hb)) : ∀ b ∈ L2582, b ≠ p2490) _ (hs2591 _ List.mem_cons_self))).symm)))
          have h2653 := (e2633 _ _ (e2611 _ _ h2608))
          have h2654 := (e2633 _ _ (e2611 _ _ (x2599 _ _ (e2554 _ _ (e2539 _ _ h2534)) ((((fun b hb => ((new_ne2 nb2560 (S2546.ow _ (.head _)).2.1) : ∀ b ∈ L2557, b ≠ x2519) b ((fun c hc => hs2577 c (List.mem_cons_of_mem _ hc)) b hb)) : ∀ b ∈ L2582, b ≠ x2519) _ (hs2591 _ List.mem_cons_self))).symm)))
          have h2655 := (e2633 _ _ (e2611 _ _ (x2599 _ _ h2567 ((((fun b hb => (nd2561 : ∀ b ∈ L2557, b ≠ a2555) b ((fun c hc => hs2577 c (List.mem_cons_of_mem _ hc)) b hb)) : ∀ b ∈ L2582, b ≠ a2555) _ (hs2591 _ List.mem_cons_self))).symm)))
          have w2656 : OwAll G2615 H2632 L2557 (vs2556) ((setL (v2552) (0) (setL ((itD (v2552) (0))) (0) (setL ((itD ((itD (v2552) (0))) (0))) (0) ((-1)))) : (List (List (List Int)))).map (oL (oL oI))) := (OwAll.mono eG2619 keeps_refl (OwAll.mono (Same.refl _) (keeps_same e2633) (OwAll.mono (Same.refl _) (keeps_same e2611) w2606)))
          exact ⟨(([] : (List PyData))), _, _, _, _, rfl, (Same.refl _), (S2637.sub (all_cons (.tail _ (.tail _ (List.mem_append_right _ (.tail _ (List.mem_append_right _ (.tail _ (.tail _ (.head _)))))))) (all_cons (.tail _ (.tail _ (List.mem_append_right _ (.tail _ (List.mem_append_right _ (.tail _ (.head _))))))) (all_cons (.tail _ (.tail _ (List.mem_append_right _ (.tail _ (List.mem_append_right _ (.head _)))))) (all_cons (.tail _ (.tail _ (List.mem_append_right _ (.head _)))) (all_cons (.head _) (all_app ((fun b hb => (.tail _ (.tail _ (List.mem_append_right _ (.tail _ (List.mem_append_left _ hb)))))) : ∀ b ∈ L2557, b ∈ (p2629 :: (a2612 :: (L2614 ++ (a2555 :: (L2557 ++ (x2519 :: (x2500 :: (p2490 :: []))))))))) all_nil))))))), h2652, h2653, h2654, h2655, h2635, d2638, w2656, hw⟩
        · intro i σ H2657 hi hw
          obtain ⟨slots_2648, vs2649, u2650, u2651, G2666, rfl, eG2667, S2658, h2659, h2660, h2661, h2662, h2663, d2664, w2665, hw⟩ := hw
          have hw := cW_forS (rng_get hi) hw
          generalize (0 + (i : Int)) = x2668 at hw ⊢
          have hw : cW (F_law_b1 (script') (v2511) (slots_2648) (x2668)) _ EE := hw
          unfold F_law_b1 at hw
          obtain ⟨K2670, hK2671, hw⟩ := cW_name hw
          refine ⟨_, rfl, _, rfl, _, _, rfl, rfl, rfl, rfl, G2666, _, _, _, rfl, S2658.sG, (S2658.b0.seq q_script), cW_call hw (fun v2673 hw => ?_) (fun e he => (hE e he).elim)⟩
          refine ⟨_, rfl, _, _, rfl, rfl, ?_⟩
          have hw := cW_bnd hw
          refine ⟨_, rfl, _, _, rfl, rfl, (show (0 : Int) < 3 by decide), _, _, rfl, rfl, _, rfl, ?_⟩
          refine iteD (fun c2675 => ?_) (fun c2675 => ?_)
          · have hw := cW_pos c2675 hw
            refine ⟨_, rfl, (.inl ⟨rfl, _, SqL.of h2663⟩), ?_⟩
            have r2676 : Rp G2666 (V.non) (encD (encN (()))) := .non
            obtain ⟨g2677, hw⟩ := cW_grd hw
            refine ⟨_, _, _, rfl, rfl, h2663, (app_len d2664 g2677), ?_⟩
            generalize g2678 : upd H2657 p2629 _ = H2679
            obtain ⟨x2680, h2681⟩ := gen_mut g2678
            have h2682 : H2679 p2629 = some (.lst (vs2649 ++ [(V.non)])) := h2681
            have S2683 := S2658.mut1 x2680 (.tail _ (.tail _ (.tail _ (.tail _ (.head _))))) h2682
            have d2684 : RpAll G2666 (vs2649 ++ [(V.non)]) (((slots_2648) ++ [(encN (()))] : (List PyData)).map encD) := app_map d2664 (RpAll.one r2676)
            have hw := cW_bnd hw
            have hw := cW_ok hw
            have hw := hK2671 _ hw
            have h2686 := (x2680 _ _ h2659 (ne_of_none (e2611 _ _ (x2599 _ _ (e2554 _ _ (e2539 _ _ ((SameXs.of x2533) _ _ (e2526 _ _ h2517) (ni1 (ne_of_none h2517 n2521))))) ((((fun b hb => ((new_ne2 nb2560 (S2546.ow _ (.tail _ (.tail _ (.head _)))).2.1) : ∀ b ∈ L2557, b ≠ p2490) b ((fun c hc => hs2577 c (List.mem_cons_of_mem _ hc)) b hb)) : ∀ b ∈ L2582, b ≠ p2490) _ (hs2591 _ List.mem_cons_self))).symm)) n2630))
            have h2687 := (x2680 _ _ h2660 (ne_of_none (e2611 _ _ h2608) n2630))
            have h2688 := (x2680 _ _ h2661 (ne_of_none (e2611 _ _ (x2599 _ _ (e2554 _ _ (e2539 _ _ h2534)) ((((fun b hb => ((new_ne2 nb2560 (S2546.ow _ (.head _)).2.1) : ∀ b ∈ L2557, b ≠ x2519) b ((fun c hc => hs2577 c (List.mem_cons_of_mem _ hc)) b hb)) : ∀ b ∈ L2582, b ≠ x2519) _ (hs2591 _ List.mem_cons_self))).symm)) n2630))
            have h2689 := (x2680 _ _ h2662 (ne_of_none (e2611 _ _ (x2599 _ _ h2567 ((((fun b hb => (nd2561 : ∀ b ∈ L2557, b ≠ a2555) b ((fun c hc => hs2577 c (List.mem_cons_of_mem _ hc)) b hb)) : ∀ b ∈ L2582, b ≠ a2555) _ (hs2591 _ List.mem_cons_self))).symm)) n2630))
            have w2690 : OwAll G2666 H2679 L2557 (vs2556) ((setL (v2552) (0) (setL ((itD (v2552) (0))) (0) (setL ((itD ((itD (v2552) (0))) (0))) (0) ((-1)))) : (List (List (List Int)))).map (oL (oL oI))) := (OwAll.mono (Same.refl _) (keeps_mut x2680 ((there_ne (fun b_ hb_ => (S2627.ow b_ (((fun b hb => (.tail _ (List.mem_append_right _ (.tail _ (List.mem_append_left _ hb))))) : ∀ b ∈ L2557, b ∈ (a2612 :: (L2614 ++ (a2555 :: (L2557 ++ (x2519 :: (x2500 :: (p2490 :: [])))))))) b_ hb_)).2.1) n2630) : ∀ b ∈ L2557, b ≠ p2629)) w2665)
            exact ⟨((slots_2648) ++ [(encN (()))]), _, _, _, _, rfl, eG2667, S2683, h2686, h2687, h2688, h2689, h2682, d2684, w2690, hw⟩
          · have hw := cW_neg c2675 hw
            refine ⟨_, rfl, (.inl ⟨rfl, _, SqL.of h2663⟩), _, rfl, _, _, rfl, rfl, (divW_lit (by decide) (by decide)), _, rfl, _, rfl, _, _, _, rfl, h2660, G2666, _, _, v2511, rfl, S2658.sG, (hide_nil h2660), cW_callN hw (fun v2691 hw H2692 e2693 => ?_) trivial⟩
            have S2694 := S2658.same e2693
            have h2695 := (e2693 _ _ h2660)
            refine ⟨rfl, rfl, G2666, _, _, _, v2511, _, rfl, S2694.sG, (hide_nil h2695), cW_call hw (fun v2696 hw v2699 H2697 G2700 e2698 eG2701 sG2702 hn2703 r2704 => ?_) (fun e he => (hE e he).elim)⟩
            have S2705 := S2694.step e2698 eG2701 sG2702 hn2703
            obtain ⟨a2706, vs2707, rfl, h2708, d2709⟩ := rp_list r2704
            have r2710 : Rp G2700 (V.ref a2706) (encD ((encL (encL (encL PyData.int))) (v2696))) := (rp_mk_list h2708 d2709)
            obtain ⟨g2711, hw⟩ := cW_grd hw
            have h2712 := (e2698 _ _ (e2693 _ _ h2663))
            refine ⟨_, _, _, rfl, rfl, h2712, (app_len (RpAll.mono eG2701 d2664) g2711), ?_⟩
            generalize g2713 : upd H2697 p2629 _ = H2714
            obtain ⟨x2715, h2716⟩ := gen_mut g2713
            have h2717 : H2714 p2629 = some (.lst (vs2649 ++ [(V.ref a2706)])) := h2716
            have S2718 := S2705.mut1 x2715 (.tail _ (.tail _ (.tail _ (.tail _ (.head _))))) h2717
            have d2719 : RpAll G2700 (vs2649 ++ [(V.ref a2706)]) (((slots_2648) ++ [((encL (encL (encL PyData.int))) (v2696))] : (List PyData)).map encD) := app_map (RpAll.mono eG2701 d2664) (RpAll.one r2710)
            have hw := cW_bnd hw
            have hw := cW_ok hw
            have hw := hK2671 _ hw
            have h2721 := (x2715 _ _ (e2698 _ _ (e2693 _ _ h2659)) (ne_of_none (e2611 _ _ (x2599 _ _ (e2554 _ _ (e2539 _ _ ((SameXs.of x2533) _ _ (e2526 _ _ h2517) (ni1 (ne_of_none h2517 n2521))))) ((((fun b hb => ((new_ne2 nb2560 (S2546.ow _ (.tail _ (.tail _ (.head _)))).2.1) : ∀ b ∈ L2557, b ≠ p2490) b ((fun c hc => hs2577 c (List.mem_cons_of_mem _ hc)) b hb)) : ∀ b ∈ L2582, b ≠ p2490) _ (hs2591 _ List.mem_cons_self))).symm)) n2630))
            have h2722 := (x2715 _ _ (e2698 _ _ h2695) (ne_of_none (e2611 _ _ h2608) n2630))
            have h2723 := (x2715 _ _ (e2698 _ _ (e2693 _ _ h2661)) (ne_of_none (e2611 _ _ (x2599 _ _ (e2554 _ _ (e2539 _ _ h2534)) ((((fun b hb => ((new_ne2 nb2560 (S2546.ow _ (.head _)).2.1) : ∀ b ∈ L2557, b ≠ x2519) b ((fun c hc => hs2577 c (List.mem_cons_of_mem _ hc)) b hb)) : ∀ b ∈ L2582, b ≠ x2519) _ (hs2591 _ List.mem_cons_self))).symm)) n2630))
            have h2724 := (x2715 _ _ (e2698 _ _ (e2693 _ _ h2662)) (ne_of_none (e2611 _ _ (x2599 _ _ h2567 ((((fun b hb => (nd2561 : ∀ b ∈ L2557, b ≠ a2555) b ((fun c hc => hs2577 c (List.mem_cons_of_mem _ hc)) b hb)) : ∀ b ∈ L2582, b ≠ a2555) _ (hs2591 _ List.mem_cons_self))).symm)) n2630))
            have w2725 : OwAll G2700 H2714 L2557 (vs2556) ((setL (v2552) (0) (setL ((itD (v2552) (0))) (0) (setL ((itD ((itD (v2552) (0))) (0))) (0) ((-1)))) : (List (List (List Int)))).map (oL (oL oI))) := (OwAll.mono eG2701 keeps_refl (OwAll.mono (Same.refl _) (keeps_mut x2715 ((there_ne (fun b_ hb_ => (S2627.ow b_ (((fun b hb => (.tail _ (List.mem_append_right _ (.tail _ (List.mem_append_left _ hb))))) : ∀ b ∈ L2557, b ∈ (a2612 :: (L2614 ++ (a2555 :: (L2557 ++ (x2519 :: (x2500 :: (p2490 :: [])))))))) b_ hb_)).2.1) n2630) : ∀ b ∈ L2557, b ≠ p2629)) (OwAll.mono (Same.refl _) (keeps_same e2698) (OwAll.mono (Same.refl _) (keeps_same e2693) w2665))))
            exact ⟨((slots_2648) ++ [((encL (encL (encL PyData.int))) (v2696))]), _, _, _, _, rfl, (Same.trans eG2667 eG2701), S2718, h2721, h2722, h2723, h2724, h2717, d2719, w2725, hw⟩
        · intro σ H2726 hw
          obtain ⟨slots_2648, vs2649, u2650, u2651, G2735, rfl, eG2736, S2727, h2728, h2729, h2730, h2731, h2732, d2733, w2734, hw⟩ := hw
          have hw := hK2647 _ (cW_forS0 (rng_len _ _).symm hw)
          have hw : cW (F_law_r1 (script') ((1 + ((itD (v2487) (4)) % 4))) ((⟨v2511, v2531.slots, v2531.rows, v2531.deblock, v2531.offset, v2531.layers⟩ : St_Settings)) (v2537) (slots_2648)) _ EE := hw
          unfold F_law_r1 at hw
          refine ⟨_, rfl, _, rfl, rfl, rfl, G2735, _, _, _, rfl, S2727.sG, (S2727.b0.seq q_script), cW_call hw (fun v2738 hw => ?_) (fun e he => (hE e he).elim)⟩
          refine ⟨_, rfl, rfl, rfl, G2735, _, _, _, _, (⟨v2511, v2531.slots, v2531.rows, v2531.deblock, v2531.offset, v2531.layers⟩ : St_Settings), _, _, _, rfl, S2727.sG, (hide_nil h2730), (hide_nil h2729), cW_call hw (fun v2739 hw H2740 p2742 l2743 l2744 dx2745 e2741 n2746 n2747 n2748 ne2752 h2749 h2750 h2751 => ?_) (fun e he => (hE e he).elim)⟩
          have fr2753 := S2727.free n2746
          have fr2754 := S2727.free n2747
          have fr2755 := S2727.free n2748
          have S2756 : Sep _ _ _ _ H2740 (p2742 :: (l2743 :: (l2744 :: (p2490 :: (x2500 :: (x2519 :: (a2555 :: (p2629 :: (L2557 ++ []))))))))) := Sep.news S2727 e2741 [p2742, l2743, l2744] (all_cons ⟨n2746, some_ne h2749, fr2753⟩ (all_cons ⟨n2747, some_ne h2750, fr2754⟩ (all_cons ⟨n2748, some_ne h2751, fr2755⟩ all_nil)))
          obtain ⟨g2757, hw⟩ := cW_grd hw
          have h2758 := (e2741 _ _ h2732)
          have h2759 := (e2741 _ _ h2730)
          have h2760 := (e2741 _ _ h2729)
          refine ⟨_, rfl, _, ((encL encD) (slots_2648)), rfl, (rp_mk_list h2758 (RpAll.mono S2756.sG d2733)), g2757, _, rfl, _, rfl, _, rfl, rfl, rfl, G2735, _, _, _, _, (⟨v2511, v2531.slots, v2531.rows, v2531.deblock, v2531.offset, v2531.layers⟩ : St_Settings), _, _, _, _, v2739, _, _, rfl, S2756.sG, (hide_nil h2759), (hide_nil h2760), (hide_nil h2749), (hide_nil h2750), (hide_nil h2751), (Rp.hide_nil (rp_mk_list h2758 (RpAll.mono S2756.sG d2733))), cW_call hw (fun v2761 hw H2762 a2764 vs2765 L2766 G2767 n2768 nb2769 nd2770 e2763 eG2771 sG2772 hn2773 ga2774 gL2775 h2776 w2777 => ?_) (fun e he => (hE e he).elim)⟩
          have fr2778 := S2756.free n2768
          have S2779 : Sep _ _ _ _ H2762 (a2764 :: (L2766 ++ (p2742 :: (l2743 :: (l2744 :: (p2490 :: (x2500 :: (x2519 :: (a2555 :: (p2629 :: (L2557 ++ []))))))))))) := Sep.steptree S2756 e2763 eG2771 sG2772 hn2773 (a2764 :: L2766) (all_cons ⟨n2768, ga2774, some_ne h2776⟩ (fun b hb => ⟨nb2769 b hb, gL2775 b hb, OwAll.there w2777 b hb⟩))
          refine ⟨_, rfl, _, _, _, _, _, rfl, (.ty _), (.base (.lst h2776)), rfl, _, rfl, ?_⟩
          refine iteF ?_
          have h2780 := (e2763 _ _ h2749)
          have h2781 := (e2763 _ _ h2751)
          refine ⟨_, rfl, _, _, _, rfl, (SqL.of h2776), (by rw [(OwAll.rpA w2777 (encO_L (encO_L (encO_L encO_I))) S2779.sG).len, List.length_map]), _, rfl, _, _, _, _, _, rfl, h2780, T.cl_PictureHeader, T.n_PictureHeader_refs, rfl, _, _, rfl, (SqL.of h2781), _, _, rfl, rfl, _, rfl, ?_⟩
          refine iteN (fun c2782 => ?_) (fun c2782 => ?_)
          · have hw := cW_neg c2782 hw
            refine iteT ?_
            have hw := cW_ok hw
            exact eq_bl (k _) (hK0 _ hw).symm
          · have hw := cW_pos c2782 hw
            obtain ⟨g2783, hw⟩ := cW_grd hw
            have h2784 := (e2763 _ _ h2758)
            refine ⟨_, rfl, _, ((encL encD) (slots_2648)), rfl, (rp_mk_list h2784 (RpAll.mono S2779.sG (RpAll.mono eG2771 d2733))), g2783, _, rfl, rfl, _, rfl, ?_⟩
            refine iteN (fun c2785 => ?_) (fun c2785 => ?_)
            · have hw := cW_neg c2785 hw
              have hw := cW_ok hw
              exact eq_bl (k _) (hK0 _ hw).symm
            · have hw := cW_pos c2785 hw
              obtain ⟨g2786, hw⟩ := cW_grd hw
              obtain ⟨K2796, hK2797, hw⟩ := cW_push hw
              refine ⟨_, rfl, _, _, _, rfl, (SqL.of h2776), (by rw [(OwAll.rpA w2777 (encO_L (encO_L (encO_L encO_I))) S2779.sG).len, List.length_map]), _, rfl, g2786.1, g2786.2, for_range (lo := 0) (n := Int.toNat ((((v2761) : (List (List (List (List Int))))).length : Int))) (fun i σ H' => ∃ (u2798 : Option V) (u2799 : Option V) (G' : Hp), σ = [some (V.ref a_script), some (V.ref p2490), some (V.ref x2500), some (V.int ((1 + ((itD (v2487) (4)) % 4)))), some (V.ref x2519), some (V.ref a2547), some (V.ref a2555), some (V.ref p2629), u2798, u2651, some (V.ref p2742), some (V.str ((PyData.shown ((encL encD) (slots_2648))))), some (V.ref a2764), u2799, none, none, none, none, none] ∧ Same G2767 G' ∧ Sep [] H H G' H' (p2490 :: (x2500 :: (x2519 :: (a2555 :: (p2629 :: (p2742 :: (l2743 :: (l2744 :: (a2764 :: (L2557 ++ (L2766 ++ []))))))))))) ∧ H' p2490 = some (.lst ((v2487 : (List Int)).map V.int)) ∧ H' x2500 = some (.ins AD.c_Format dx2501 [("width", V.int (v2511.width)), ("height", V.int (v2511.height)), ("depth", V.int (v2511.depth)), ("chroma", V.int (v2511.chroma))]) ∧ H' x2519 = some (.ins AD.c_Settings dx2520 [("fmt", V.ref x2500), ("slots", V.int (v2531.slots)), ("rows", V.int (v2531.rows)), ("deblock", V.bl (v2531.deblock)), ("offset", V.bl (v2531.offset)), ("layers", V.int (v2531.layers))]) ∧ H' a2555 = some (.lst (vs2556)) ∧ H' p2629 = some (.lst (vs2649)) ∧ H' p2742 = some (.ins AD.c_PictureHeader dx2745 [("number", V.int (v2739.number)), ("kind", V.str (v2739.kind)), ("level", V.int (v2739.level)), ("store", V.ref l2743), ("refs", V.ref l2744), ("weight", V.int (v2739.weight)), ("layer", V.int (v2739.layer)), ("shown", V.bl (v2739.shown)), ("edge", V.int (v2739.edge))]) ∧ H' l2743 = some (.lst ((v2739.store : (List Int)).map V.int)) ∧ H' l2744 = some (.lst ((v2739.refs : (List Int)).map V.int)) ∧ H' a2764 = some (.lst (vs2765)) ∧ OwAll G' H' L2557 (vs2556) ((setL (v2552) (0) (setL ((itD (v2552) (0))) (0) (setL ((itD ((itD (v2552) (0))) (0))) (0) ((-1)))) : (List (List (List Int)))).map (oL (oL oI))) ∧ OwAll G' H' L2766 (vs2765) ((v2761 : (List (List (List (List Int))))).map (oL (oL (oL oI)))) ∧ cW (forR (List.drop i (rng (0) (Int.toNat ((((v2761) : (List (List (List (List Int))))).length : Int))))) () (fun s x => F_law_b2 (v2537) (slots_2648) (v2739) (v2761)  x)) K2796 EE) ?_ ?_ ?_⟩
              · have h2800 := (e2763 _ _ (e2741 _ _ h2728))
                have h2801 := (e2763 _ _ h2760)
                have h2802 := (e2763 _ _ h2759)
                have h2803 := (e2763 _ _ (e2741 _ _ h2731))
                have h2804 := (e2763 _ _ h2750)
                have w2805 : OwAll G2767 H2762 L2557 (vs2556) ((setL (v2552) (0) (setL ((itD (v2552) (0))) (0) (setL ((itD ((itD (v2552) (0))) (0))) (0) ((-1)))) : (List (List (List Int)))).map (oL (oL oI))) := (OwAll.mono eG2771 keeps_refl (OwAll.mono (Same.refl _) (keeps_same e2763) (OwAll.mono (Same.refl _) (keeps_same e2741) w2734)))
                exact ⟨_, _, _, rfl, (Same.refl _), (S2779.sub (all_cons (.tail _ (List.mem_append_right _ (.tail _ (.tail _ (.tail _ (.head _)))))) (all_cons (.tail _ (List.mem_append_right _ (.tail _ (.tail _ (.tail _ (.tail _ (.head _))))))) (all_cons (.tail _ (List.mem_append_right _ (.tail _ (.tail _ (.tail _ (.tail _ (.tail _ (.head _)))))))) (all_cons (.tail _ (List.mem_append_right _ (.tail _ (.tail _ (.tail _ (.tail _ (.tail _ (.tail _ (.head _))))))))) (all_cons (.tail _ (List.mem_append_right _ (.tail _ (.tail _ (.tail _ (.tail _ (.tail _ (.tail _ (.tail _ (.head _)))))))))) (all_cons (.tail _ (List.mem_append_right _ (.head _))) (all_cons (.tail _ (List.mem_append_right _ (.tail _ (.head _)))) (all_cons (.tail _ (List.mem_append_right _ (.tail _ (.tail _ (.head _))))) (all_cons (.head _) (all_app ((fun b hb => (.tail _ (List.mem_append_right _ (.tail _ (.tail _ (.tail _ (.tail _ (.tail _ (.tail _ (.tail _ (.tail _ (List.mem_append_left _ hb)))))))))))) : ∀ b ∈ L2557, b ∈ (a2764 :: (L2766 ++ (p2742 :: (l2743 :: (l2744 :: (p2490 :: (x2500 :: (x2519 :: (a2555 :: (p2629 :: (L2557 ++ [])))))))))))) (all_app ((fun b hb => (.tail _ (List.mem_append_left _ hb))) : ∀ b ∈ L2766, b ∈ (a2764 :: (L2766 ++ (p2742 :: (l2743 :: (l2744 :: (p2490 :: (x2500 :: (x2519 :: (a2555 :: (p2629 :: (L2557 ++ [])))))))))))) all_nil)))))))))))), h2800, h2801, h2802, h2803, h2784, h2780, h2804, h2781, h2776, w2805, w2777, hw⟩
              · intro i σ H2806 hi hw
                obtain ⟨u2798, u2799, G2819, rfl, eG2820, S2807, h2808, h2809, h2810, h2811, h2812, h2813, h2814, h2815, h2816, w2817, w2818, hw⟩ := hw
                have hw := cW_forR (rng_get hi) hw
                generalize (0 + (i : Int)) = x2821 at hw ⊢
                have hw : cW (F_law_b2 (v2537) (slots_2648) (v2739) (v2761)  (x2821)) _ EE := hw
                unfold F_law_b2 at hw
                obtain ⟨K2822, hK2823, hw⟩ := cW_name hw
                obtain ⟨g2825, hw⟩ := cW_grd hw
                obtain ⟨g2826, hw⟩ := cW_grd hw
                obtain ⟨v2827, a2828, r2829⟩ := RpAll.ixD (k := (itD (v2739.refs) (x2821))) (RpAll.mono eG2820 (RpAll.mono eG2771 d2733)) g2826
                obtain ⟨g2830, hw⟩ := cW_grd hw
                obtain ⟨v2831, L2832, a2833, w2834, hs2835, up2836, gr2837⟩ := OwAll.partM (k := x2821) w2818 g2830
                obtain ⟨b2838, vs2839, L2840, rfl, rfl, h2841, w2842, nb2843⟩ := Ow.toList w2834
                refine ⟨_, rfl, _, rfl, _, _, _, _, _, rfl, h2813, T.cl_PictureHeader, T.n_PictureHeader_refs, rfl, _, rfl, _, _, _, _, rfl, rfl, (SqL.of h2815), (atI_map g2825), _, _, _, _, rfl, rfl, (SqL.of h2812), a2828, _, rfl, _, rfl, _, _, _, _, rfl, rfl, (SqL.of h2816), a2833, _, rfl, (itD (slots_2648) ((itD (v2739.refs) (x2821)))), rfl, (Rp.mono S2807.sG r2829), _, rfl, ?_⟩
                refine iteB (fun c2844 => ?_) (fun c2844 => ?_)
                · have hw := cW_pos c2844 hw
                  obtain ⟨g2845, hw⟩ := cW_grd hw
                  refine ⟨_, rfl, ((encL (encL (encL PyData.int))) ((itD (v2761) (x2821)))), ((encL (encL (encL PyData.int))) (v2537)), (rp_mk_list h2841 (OwAll.rpA w2842 (encO_L (encO_L encO_I)) S2807.sG)), (rp_mk_list (S2807.sG _ _ (eG2820 _ _ (eG2771 _ _ (eG2736 _ _ (eG2619 _ _ (eG2562 _ _ h2549)))))) (RpAll.mono S2807.sG (RpAll.mono eG2820 (RpAll.mono eG2771 (RpAll.mono eG2736 (RpAll.mono eG2619 (RpAll.mono eG2562 d2550))))))), g2845, _, rfl, ?_⟩
                  refine iteB (fun c2846 => ?_) (fun c2846 => ?_)
                  · have hw := cW_pos c2846 hw
                    have hw := cW_ok hw
                    have hw := hK2823 (.rt _) hw
                    have hw := hK2797 (.rt _) hw
                    have hw := cW_ok hw
                    exact eq_bl (k _) (hK0 _ hw).symm
                  · have hw := cW_negB c2846 hw
                    have hw := cW_ok hw
                    have hw := hK2823 _ hw
                    exact ⟨_, _, _, rfl, eG2820, S2807, h2808, h2809, h2810, h2811, h2812, h2813, h2814, h2815, h2816, w2817, w2818, hw⟩
                · have hw := cW_negB c2844 hw
                  obtain ⟨g2847, hw⟩ := cW_grd hw
                  refine ⟨_, rfl, ((encL (encL (encL PyData.int))) ((itD (v2761) (x2821)))), (itD (slots_2648) ((itD (v2739.refs) (x2821)))), (rp_mk_list h2841 (OwAll.rpA w2842 (encO_L (encO_L encO_I)) S2807.sG)), (Rp.mono S2807.sG r2829), g2847, _, rfl, ?_⟩
                  refine iteB (fun c2848 => ?_) (fun c2848 => ?_)
                  · have hw := cW_pos c2848 hw
                    have hw := cW_ok hw
                    have hw := hK2823 (.rt _) hw
                    have hw := hK2797 (.rt _) hw
                    have hw := cW_ok hw
                    exact eq_bl (k _) (hK0 _ hw).symm
                  · have hw := cW_negB c2848 hw
                    have hw := cW_ok hw
                    have hw := hK2823 _ hw
                    exact ⟨_, _, _, rfl, eG2820, S2807, h2808, h2809, h2810, h2811, h2812, h2813, h2814, h2815, h2816, w2817, w2818, hw⟩
              · intro σ H2849 hw
                obtain ⟨u2798, u2799, G2862, rfl, eG2863, S2850, h2851, h2852, h2853, h2854, h2855, h2856, h2857, h2858, h2859, w2860, w2861, hw⟩ := hw
                have hw := cW_aftgo (hK2797 _ (cW_forR0 (rng_len _ _).symm hw))
                have hw : cW (F_law_r2 (v2511) (v2537) (slots_2648) ((PyData.shown ((encL encD) (slots_2648)))) (v2761) ) _ EE := hw
                unfold F_law_r2 at hw
                obtain ⟨g2864, hw⟩ := cW_grd hw
                obtain ⟨K2869, hK2870, hw⟩ := cW_push hw
                refine ⟨_, rfl, _, _, _, rfl, (SqL.of h2859), (by rw [(OwAll.rpA w2861 (encO_L (encO_L (encO_L encO_I))) S2850.sG).len, List.length_map]), _, rfl, g2864.1, g2864.2, for_range (lo := 0) (n := Int.toNat ((((v2761) : (List (List (List (List Int))))).length : Int))) (fun i σ H' => ∃ (u2871 : Option V) (references_2872 : (List (List (List (List Int))))) (vs2873 : List V) (L2874 : List Addr) (u2875 : Option V) (u2876 : Option V) (u2877 : Option V) (G' : Hp), σ = [some (V.ref a_script), some (V.ref p2490), some (V.ref x2500), some (V.int ((1 + ((itD (v2487) (4)) % 4)))), some (V.ref x2519), some (V.ref a2547), some (V.ref a2555), some (V.ref p2629), u2871, u2651, some (V.ref p2742), some (V.str ((PyData.shown ((encL encD) (slots_2648))))), some (V.ref a2764), u2799, u2875, u2876, u2877, none, none] ∧ Same G2862 G' ∧ Sep [] H H G' H' (p2490 :: (x2500 :: (x2519 :: (a2555 :: (p2629 :: (p2742 :: (l2743 :: (l2744 :: (a2764 :: (L2557 ++ (L2874 ++ []))))))))))) ∧ H' p2490 = some (.lst ((v2487 : (List Int)).map V.int)) ∧ H' x2500 = some (.ins AD.c_Format dx2501 [("width", V.int (v2511.width)), ("height", V.int (v2511.height)), ("depth", V.int (v2511.depth)), ("chroma", V.int (v2511.chroma))]) ∧ H' x2519 = some (.ins AD.c_Settings dx2520 [("fmt", V.ref x2500), ("slots", V.int (v2531.slots)), ("rows", V.int (v2531.rows)), ("deblock", V.bl (v2531.deblock)), ("offset", V.bl (v2531.offset)), ("layers", V.int (v2531.layers))]) ∧ H' a2555 = some (.lst (vs2556)) ∧ H' p2629 = some (.lst (vs2649)) ∧ H' p2742 = some (.ins AD.c_PictureHeader dx2745 [("number", V.int (v2739.number)), ("kind", V.str (v2739.kind)), ("level", V.int (v2739.level)), ("store", V.ref l2743), ("refs", V.ref l2744), ("weight", V.int (v2739.weight)), ("layer", V.int (v2739.layer)), ("shown", V.bl (v2739.shown)), ("edge", V.int (v2739.edge))]) ∧ H' l2743 = some (.lst ((v2739.store : (List Int)).map V.int)) ∧ H' l2744 = some (.lst ((v2739.refs : (List Int)).map V.int)) ∧ H' a2764 = some (.lst (vs2873)) ∧ (∀ b ∈ L2874, b ≠ p2490) ∧ (∀ b ∈ L2874, b ≠ x2500) ∧ (∀ b ∈ L2874, b ≠ x2519) ∧ (∀ b ∈ L2874, b ≠ a2555) ∧ (∀ b ∈ L2874, b ≠ p2629) ∧ (∀ b ∈ L2874, b ≠ p2742) ∧ (∀ b ∈ L2874, b ≠ l2743) ∧ (∀ b ∈ L2874, b ≠ l2744) ∧ (∀ b ∈ L2874, b ≠ a2764) ∧ (∀ b ∈ L2874, b ∉ L2557) ∧ OwAll G' H' L2557 (vs2556) ((setL (v2552) (0) (setL ((itD (v2552) (0))) (0) (setL ((itD ((itD (v2552) (0))) (0))) (0) ((-1)))) : (List (List (List Int)))).map (oL (oL oI))) ∧ OwAll G' H' L2874 (vs2873) ((references_2872 : (List (List (List (List Int))))).map (oL (oL (oL oI)))) ∧ cW (forR (List.drop i (rng (0) (Int.toNat ((((v2761) : (List (List (List (List Int))))).length : Int))))) references_2872 (fun s x => F_law_b3  s x)) K2869 EE) ?_ ?_ ?_⟩
                · exact ⟨_, (v2761), (vs2765), L2766, _, _, _, _, rfl, (Same.refl _), (S2850.sub (all_cons (.head _) (all_cons (.tail _ (.head _)) (all_cons (.tail _ (.tail _ (.head _))) (all_cons (.tail _ (.tail _ (.tail _ (.head _)))) (all_cons (.tail _ (.tail _ (.tail _ (.tail _ (.head _))))) (all_cons (.tail _ (.tail _ (.tail _ (.tail _ (.tail _ (.head _)))))) (all_cons (.tail _ (.tail _ (.tail _ (.tail _ (.tail _ (.tail _ (.head _))))))) (all_cons (.tail _ (.tail _ (.tail _ (.tail _ (.tail _ (.tail _ (.tail _ (.head _)))))))) (all_cons (.tail _ (.tail _ (.tail _ (.tail _ (.tail _ (.tail _ (.tail _ (.tail _ (.head _))))))))) (all_app ((fun b hb => (.tail _ (.tail _ (.tail _ (.tail _ (.tail _ (.tail _ (.tail _ (.tail _ (.tail _ (List.mem_append_left _ hb))))))))))) : ∀ b ∈ L2557, b ∈ (p2490 :: (x2500 :: (x2519 :: (a2555 :: (p2629 :: (p2742 :: (l2743 :: (l2744 :: (a2764 :: (L2557 ++ (L2766 ++ [])))))))))))) (all_app ((fun b hb => (.tail _ (.tail _ (.tail _ (.tail _ (.tail _ (.tail _ (.tail _ (.tail _ (.tail _ (List.mem_append_right _ (List.mem_append_left _ hb)))))))))))) : ∀ b ∈ L2766, b ∈ (p2490 :: (x2500 :: (x2519 :: (a2555 :: (p2629 :: (p2742 :: (l2743 :: (l2744 :: (a2764 :: (L2557 ++ (L2766 ++ [])))))))))))) all_nil)))))))))))), h2851, h2852, h2853, h2854, h2855, h2856, h2857, h2858, h2859, (new_ne2 nb2769 (S2756.ow _ (.tail _ (.tail _ (.tail _ (.head _))))).2.1), (new_ne2 nb2769 (S2756.ow _ (.tail _ (.tail _ (.tail _ (.tail _ (.head _)))))).2.1), (new_ne2 nb2769 (S2756.ow _ (.tail _ (.tail _ (.tail _ (.tail _ (.tail _ (.head _))))))).2.1), (new_ne2 nb2769 (S2756.ow _ (.tail _ (.tail _ (.tail _ (.tail _ (.tail _ (.tail _ (.head _)))))))).2.1), (new_ne2 nb2769 (S2756.ow _ (.tail _ (.tail _ (.tail _ (.tail _ (.tail _ (.tail _ (.tail _ (.head _))))))))).2.1), (new_ne2 nb2769 (S2756.ow _ (.head _)).2.1), (new_ne2 nb2769 (S2756.ow _ (.tail _ (.head _))).2.1), (new_ne2 nb2769 (S2756.ow _ (.tail _ (.tail _ (.head _)))).2.1), nd2770, (new_nl nb2769 (fun b_ hb_ => (S2756.ow b_ (((fun b hb => (.tail _ (.tail _ (.tail _ (.tail _ (.tail _ (.tail _ (.tail _ (.tail _ (List.mem_append_left _ hb)))))))))) : ∀ b ∈ L2557, b ∈ (p2742 :: (l2743 :: (l2744 :: (p2490 :: (x2500 :: (x2519 :: (a2555 :: (p2629 :: (L2557 ++ [])))))))))) b_ hb_)).2.1)), w2860, w2861, hw⟩
                · intro i σ H2878 hi hw
                  obtain ⟨u2871, references_2872, vs2873, L2874, u2875, u2876, u2877, G2901, rfl, eG2902, S2879, h2880, h2881, h2882, h2883, h2884, h2885, h2886, h2887, h2888, ne2889, ne2890, ne2891, ne2892, ne2893, ne2894, ne2895, ne2896, ne2897, ne2898, w2899, w2900, hw⟩ := hw
                  have hw := cW_forR (rng_get hi) hw
                  generalize (0 + (i : Int)) = x2903 at hw ⊢
                  have hw : cW (F_law_b3  (references_2872) (x2903)) _ EE := hw
                  unfold F_law_b3 at hw
                  obtain ⟨K2905, hK2906, hw⟩ := cW_name hw
                  have d2908 := cut_all none (some (x2903)) (OwAll.rpA w2900 (encO_L (encO_L (encO_L encO_I))) S2879.sG)
                  refine ⟨_, rfl, _, rfl, _, rfl, _, _, rfl, (SqL.of h2888), fun p2909 n2910 => ?_⟩
                  generalize g2911 : upd H2878 p2909 _ = H2912
                  obtain ⟨e2913, h2914⟩ := gen_new n2910 g2911
                  have h2915 : H2912 p2909 = some (.lst (cutV (vs2873) none (some (x2903)))) := h2914
                  have fr2917 := S2879.free n2910
                  have S2918 := S2879.new n2910 e2913 h2915 fr2917
                  have d2916 : RpAll H2912 (cutV (vs2873) none (some (x2903))) ((cutL (references_2872) none (some (x2903)) : (List (List (List (List Int))))).map (encL (encL (encL PyData.int)))) := RpAll.mono e2913 d2908
                  have h2919 := (e2913 _ _ h2888)
                  have w2920 : OwAll G2901 H2912 L2874 (vs2873) ((references_2872 : (List (List (List (List Int))))).map (oL (oL (oL oI)))) := (OwAll.mono (Same.refl _) (keeps_same e2913) w2900)
                  have d2921 := cut_all (some ((x2903 + 1))) none (OwAll.rpA w2920 (encO_L (encO_L (encO_L encO_I))) S2918.sG)
                  refine ⟨_, rfl, _, rfl, _, _, rfl, rfl, _, rfl, _, _, rfl, (SqL.of h2919), fun p2922 n2923 => ?_⟩
                  generalize g2924 : upd H2912 p2922 _ = H2925
                  obtain ⟨e2926, h2927⟩ := gen_new n2923 g2924
                  have h2928 : H2925 p2922 = some (.lst (cutV (vs2873) (some ((x2903 + 1))) none)) := h2927
                  have fr2930 := S2918.free n2923
                  have S2931 := S2918.new n2923 e2926 h2928 fr2930
                  have d2929 : RpAll H2925 (cutV (vs2873) (some ((x2903 + 1))) none) ((cutL (references_2872) (some ((x2903 + 1))) none : (List (List (List (List Int))))).map (encL (encL (encL PyData.int)))) := RpAll.mono e2926 d2921
                  obtain ⟨g2932, hw⟩ := cW_grd hw
                  have h2933 := (e2926 _ _ h2915)
                  have d2934 := app_map (RpAll.mono e2926 d2916) d2929
                  refine ⟨_, _, _, _, rfl, rfl, h2933, h2928, (cat_len2 (RpAll.mono e2926 d2916) d2929 g2932), fun p2935 n2936 => ?_⟩
                  generalize g2937 : upd H2925 p2935 _ = H2938
                  obtain ⟨e2939, h2940⟩ := gen_new n2936 g2937
                  have h2941 : H2938 p2935 = some (.lst (cutV (vs2873) none (some (x2903)) ++ cutV (vs2873) (some ((x2903 + 1))) none)) := h2940
                  have fr2943 := S2931.free n2936
                  have S2944 := S2931.new n2936 e2939 h2941 fr2943
                  have d2942 : RpAll H2938 (cutV (vs2873) none (some (x2903)) ++ cutV (vs2873) (some ((x2903 + 1))) none) (((cutL (references_2872) none (some (x2903))) ++ (cutL (references_2872) (some ((x2903 + 1))) none) : (List (List (List (List Int))))).map (encL (encL (encL PyData.int)))) := RpAll.mono e2939 d2934
                  obtain ⟨g2945, hw⟩ := cW_grd hw
                  obtain ⟨g2946, hw⟩ := cW_grd hw
                  have w2947 : OwAll G2901 H2938 L2874 (vs2873) ((references_2872 : (List (List (List (List Int))))).map (oL (oL (oL oI)))) := (OwAll.mono (Same.refl _) (keeps_same e2939) (OwAll.mono (Same.refl _) (keeps_same e2926) w2920))
                  obtain ⟨v2948, L2949, a2950, w2951, hs2952, up2953, gr2954⟩ := OwAll.partM (k := x2903) w2947 g2946
                  have h2955 := (e2939 _ _ (e2926 _ _ h2919))
                  obtain ⟨b2956, vs2957, L2958, rfl, rfl, h2959, w2960, nb2961⟩ := Ow.toList w2951
                  obtain ⟨K2963, hK2964, hw⟩ := cW_push hw
                  refine ⟨_, ((encL (encL (encL (encL PyData.int)))) ((cutL (references_2872) none (some (x2903))) ++ (cutL (references_2872) (some ((x2903 + 1))) none))), rfl, (rp_mk_list h2941 d2942), g2945, _, rfl, _, rfl, _, _, _, _, rfl, rfl, (SqL.of h2955), a2950, _, rfl, ⟨_, (SqL.of h2959)⟩, fun D2965 n2966 => lc_list (K := K) (a := b2956) (xs := vs2957) (fun i H' => ∃ (G' : Hp) (acc2968 : (List (List (List Int)))) (vs2969 : List V) (L2967 : List Addr), Same G2901 G' ∧ Sep [] H H G' H' (D2965 :: (L2967 ++ (a2555 :: (a2764 :: (p2490 :: (x2500 :: (x2519 :: (p2629 :: (p2742 :: (l2743 :: (l2744 :: (L2557 ++ (L2874 ++ []))))))))))))) ∧ H' a2555 = some (.lst (vs2556)) ∧ H' a2764 = some (.lst (vs2873)) ∧ H' p2490 = some (.lst ((v2487 : (List Int)).map V.int)) ∧ H' x2500 = some (.ins AD.c_Format dx2501 [("width", V.int (v2511.width)), ("height", V.int (v2511.height)), ("depth", V.int (v2511.depth)), ("chroma", V.int (v2511.chroma))]) ∧ H' x2519 = some (.ins AD.c_Settings dx2520 [("fmt", V.ref x2500), ("slots", V.int (v2531.slots)), ("rows", V.int (v2531.rows)), ("deblock", V.bl (v2531.deblock)), ("offset", V.bl (v2531.offset)), ("layers", V.int (v2531.layers))]) ∧ H' p2629 = some (.lst (vs2649)) ∧ H' p2742 = some (.ins AD.c_PictureHeader dx2745 [("number", V.int (v2739.number)), ("kind", V.str (v2739.kind)), ("level", V.int (v2739.level)), ("store", V.ref l2743), ("refs", V.ref l2744), ("weight", V.int (v2739.weight)), ("layer", V.int (v2739.layer)), ("shown", V.bl (v2739.shown)), ("edge", V.int (v2739.edge))]) ∧ H' l2743 = some (.lst ((v2739.store : (List Int)).map V.int)) ∧ H' l2744 = some (.lst ((v2739.refs : (List Int)).map V.int)) ∧ H' D2965 = some (.lst vs2969) ∧ OwAll G' H' L2557 (vs2556) ((setL (v2552) (0) (setL ((itD (v2552) (0))) (0) (setL ((itD ((itD (v2552) (0))) (0))) (0) ((-1)))) : (List (List (List Int)))).map (oL (oL oI))) ∧ OwAll G' H' L2874 (vs2873) ((references_2872 : (List (List (List (List Int))))).map (oL (oL (oL oI)))) ∧ OwAll G' H' L2967 vs2969 ((acc2968 : (List (List (List Int)))).map (oL (oL oI))) ∧ (∀ b ∈ L2967, H2938 b = none) ∧ (∀ b ∈ L2967, b ≠ D2965) ∧ Same H2938 H' ∧ cW (mapA (List.drop i ((itD (references_2872) (x2903)))) acc2968 (fun x => noEr (F_law_c4  x))) K2963 EE) ?_ ?_ ?_ ?_⟩
                  · generalize g2970 : upd H2938 D2965 _ = H2971
                    obtain ⟨e2972, h2973⟩ := gen_new n2966 g2970
                    have fr2974 := S2944.free n2966
                    have S2975 := S2944.new n2966 e2972 h2973 fr2974
                    have h2976 := (e2972 _ _ (e2939 _ _ (e2926 _ _ (e2913 _ _ h2883))))
                    have h2977 := (e2972 _ _ h2955)
                    have h2978 := (e2972 _ _ (e2939 _ _ (e2926 _ _ (e2913 _ _ h2880))))
                    have h2979 := (e2972 _ _ (e2939 _ _ (e2926 _ _ (e2913 _ _ h2881))))
                    have h2980 := (e2972 _ _ (e2939 _ _ (e2926 _ _ (e2913 _ _ h2882))))
                    have h2981 := (e2972 _ _ (e2939 _ _ (e2926 _ _ (e2913 _ _ h2884))))
                    have h2982 := (e2972 _ _ (e2939 _ _ (e2926 _ _ (e2913 _ _ h2885))))
                    have h2983 := (e2972 _ _ (e2939 _ _ (e2926 _ _ (e2913 _ _ h2886))))
                    have h2984 := (e2972 _ _ (e2939 _ _ (e2926 _ _ (e2913 _ _ h2887))))
                    have w2985 : OwAll G2901 H2971 L2557 (vs2556) ((setL (v2552) (0) (setL ((itD (v2552) (0))) (0) (setL ((itD ((itD (v2552) (0))) (0))) (0) ((-1)))) : (List (List (List Int)))).map (oL (oL oI))) := (OwAll.mono (Same.refl _) (keeps_same e2972) (OwAll.mono (Same.refl _) (keeps_same e2939) (OwAll.mono (Same.refl _) (keeps_same e2926) (OwAll.mono (Same.refl _) (keeps_same e2913) w2899))))
                    have w2986 : OwAll G2901 H2971 L2874 (vs2873) ((references_2872 : (List (List (List (List Int))))).map (oL (oL (oL oI)))) := (OwAll.mono (Same.refl _) (keeps_same e2972) w2947)
                    exact ⟨_, [], [], [], Same.refl _, (S2975.sub (all_cons (.head _) (all_app (L := []) all_nil (all_cons (.tail _ (.tail _ (.tail _ (.tail _ (.tail _ (.tail _ (.tail _ (.head _)))))))) (all_cons (.tail _ (.tail _ (.tail _ (.tail _ (.tail _ (.tail _ (.tail _ (.tail _ (.tail _ (.tail _ (.tail _ (.tail _ (.head _))))))))))))) (all_cons (.tail _ (.tail _ (.tail _ (.tail _ (.head _))))) (all_cons (.tail _ (.tail _ (.tail _ (.tail _ (.tail _ (.head _)))))) (all_cons (.tail _ (.tail _ (.tail _ (.tail _ (.tail _ (.tail _ (.head _))))))) (all_cons (.tail _ (.tail _ (.tail _ (.tail _ (.tail _ (.tail _ (.tail _ (.tail _ (.head _))))))))) (all_cons (.tail _ (.tail _ (.tail _ (.tail _ (.tail _ (.tail _ (.tail _ (.tail _ (.tail _ (.head _)))))))))) (all_cons (.tail _ (.tail _ (.tail _ (.tail _ (.tail _ (.tail _ (.tail _ (.tail _ (.tail _ (.tail _ (.head _))))))))))) (all_cons (.tail _ (.tail _ (.tail _ (.tail _ (.tail _ (.tail _ (.tail _ (.tail _ (.tail _ (.tail _ (.tail _ (.head _)))))))))))) (all_app ((fun b hb => (.tail _ (.tail _ (.tail _ (.tail _ (.tail _ (.tail _ (.tail _ (.tail _ (.tail _ (.tail _ (.tail _ (.tail _ (.tail _ (List.mem_append_left _ hb))))))))))))))) : ∀ b ∈ L2557, b ∈ (D2965 :: (p2935 :: (p2922 :: (p2909 :: (p2490 :: (x2500 :: (x2519 :: (a2555 :: (p2629 :: (p2742 :: (l2743 :: (l2744 :: (a2764 :: (L2557 ++ (L2874 ++ [])))))))))))))))) (all_app ((fun b hb => (.tail _ (.tail _ (.tail _ (.tail _ (.tail _ (.tail _ (.tail _ (.tail _ (.tail _ (.tail _ (.tail _ (.tail _ (.tail _ (List.mem_append_right _ (List.mem_append_left _ hb)))))))))))))))) : ∀ b ∈ L2874, b ∈ (D2965 :: (p2935 :: (p2922 :: (p2909 :: (p2490 :: (x2500 :: (x2519 :: (a2555 :: (p2629 :: (p2742 :: (l2743 :: (l2744 :: (a2764 :: (L2557 ++ (L2874 ++ [])))))))))))))))) all_nil)))))))))))))), h2976, h2977, h2978, h2979, h2980, h2981, h2982, h2983, h2984, h2973, w2985, w2986, OwAll.nil, all_nil, all_nil, e2972, hw⟩
                  · intro i H2987 _ hw
                    obtain ⟨G2990, acc2992, vs2993, L2995, eG2991, S2988, h2999, h3000, h3001, h3002, h3003, h3004, h3005, h3006, h3007, h2989, w3008, w3009, d2994, nb2996, nd2997, eo2998, hw⟩ := hw
                    have h3010 := (eo2998 _ _ h2959)
                    exact (SqL.of h3010)
                  · intro i x H3011 hj hw
                    obtain ⟨G3014, acc3016, vs3017, L3019, eG3015, S3012, h3023, h3024, h3025, h3026, h3027, h3028, h3029, h3030, h3031, h3013, w3032, w3033, d3018, nb3020, nd3021, eo3022, hw⟩ := hw
                    have w3035 : OwAll G3014 H3011 L2958 (vs2957) (((itD (references_2872) (x2903)) : (List (List (List Int)))).map (oL (oL oI))) := (OwAll.mono eG3015 keeps_refl (OwAll.mono (Same.refl _) (keeps_same eo3022) w2960))
                    obtain ⟨x3034, L3036, hx, w3037, hs3038⟩ := OwAll.turn w3035 hj
                    obtain ⟨b3039, vs3040, L3041, rfl, rfl, h3042, w3043, nb3044⟩ := Ow.toList w3037
                    obtain ⟨z3045, hw⟩ := cW_mapA hx hw
                    have hw := cW_noEr hw
                    have hw : cW (F_law_c4  (x3034)) _ (fun _ => False) := hw
                    unfold F_law_c4 at hw
                    refine ⟨rfl, ?_⟩
                    refine tyes_go ?_
                    obtain ⟨K3048, hK3049, hw⟩ := cW_push hw
                    refine ⟨_, rfl, _, rfl, ⟨_, (SqL.of h3042)⟩, fun D3050 n3051 => lc_list (K := K) (a := b3039) (xs := vs3040) (fun i2 H' => ∃ (G' : Hp) (acc3053 : (List (List Int))) (vs3054 : List V) (L3052 : List Addr), Same G3014 G' ∧ Sep [] H H G' H' (D3050 :: (L3052 ++ (a2555 :: (a2764 :: (D2965 :: (p2490 :: (x2500 :: (x2519 :: (p2629 :: (p2742 :: (l2743 :: (l2744 :: (L2557 ++ (L2874 ++ (L3019 ++ []))))))))))))))) ∧ H' a2555 = some (.lst (vs2556)) ∧ H' a2764 = some (.lst (vs2873)) ∧ H' D2965 = some (.lst (vs3017)) ∧ H' p2490 = some (.lst ((v2487 : (List Int)).map V.int)) ∧ H' x2500 = some (.ins AD.c_Format dx2501 [("width", V.int (v2511.width)), ("height", V.int (v2511.height)), ("depth", V.int (v2511.depth)), ("chroma", V.int (v2511.chroma))]) ∧ H' x2519 = some (.ins AD.c_Settings dx2520 [("fmt", V.ref x2500), ("slots", V.int (v2531.slots)), ("rows", V.int (v2531.rows)), ("deblock", V.bl (v2531.deblock)), ("offset", V.bl (v2531.offset)), ("layers", V.int (v2531.layers))]) ∧ H' p2629 = some (.lst (vs2649)) ∧ H' p2742 = some (.ins AD.c_PictureHeader dx2745 [("number", V.int (v2739.number)), ("kind", V.str (v2739.kind)), ("level", V.int (v2739.level)), ("store", V.ref l2743), ("refs", V.ref l2744), ("weight", V.int (v2739.weight)), ("layer", V.int (v2739.layer)), ("shown", V.bl (v2739.shown)), ("edge", V.int (v2739.edge))]) ∧ H' l2743 = some (.lst ((v2739.store : (List Int)).map V.int)) ∧ H' l2744 = some (.lst ((v2739.refs : (List Int)).map V.int)) ∧ H' D3050 = some (.lst vs3054) ∧ OwAll G' H' L2557 (vs2556) ((setL (v2552) (0) (setL ((itD (v2552) (0))) (0) (setL ((itD ((itD (v2552) (0))) (0))) (0) ((-1)))) : (List (List (List Int)))).map (oL (oL oI))) ∧ OwAll G' H' L2874 (vs2873) ((references_2872 : (List (List (List (List Int))))).map (oL (oL (oL oI)))) ∧ OwAll G' H' L3019 (vs3017) ((acc3016 : (List (List (List Int)))).map (oL (oL oI))) ∧ OwAll G' H' L3052 vs3054 ((acc3053 : (List (List Int))).map (oL oI)) ∧ (∀ b ∈ L3052, H3011 b = none) ∧ (∀ b ∈ L3052, b ≠ D3050) ∧ Same H3011 H' ∧ cW (mapA (List.drop i2 (x3034)) acc3053 (fun x => noEr (F_law_c5  x))) K3048 (fun _ => False)) ?_ ?_ ?_ ?_⟩
                    · generalize g3055 : upd H3011 D3050 _ = H3056
                      obtain ⟨e3057, h3058⟩ := gen_new n3051 g3055
                      have fr3059 := S3012.free n3051
                      have S3060 := S3012.new n3051 e3057 h3058 fr3059
                      have h3061 := (e3057 _ _ h3023)
                      have h3062 := (e3057 _ _ h3024)
                      have h3063 := (e3057 _ _ h3013)
                      have h3064 := (e3057 _ _ h3025)
                      have h3065 := (e3057 _ _ h3026)
                      have h3066 := (e3057 _ _ h3027)
                      have h3067 := (e3057 _ _ h3028)
                      have h3068 := (e3057 _ _ h3029)
                      have h3069 := (e3057 _ _ h3030)
                      have h3070 := (e3057 _ _ h3031)
                      have w3071 : OwAll G3014 H3056 L2557 (vs2556) ((setL (v2552) (0) (setL ((itD (v2552) (0))) (0) (setL ((itD ((itD (v2552) (0))) (0))) (0) ((-1)))) : (List (List (List Int)))).map (oL (oL oI))) := (OwAll.mono (Same.refl _) (keeps_same e3057) w3032)
                      have w3072 : OwAll G3014 H3056 L2874 (vs2873) ((references_2872 : (List (List (List (List Int))))).map (oL (oL (oL oI)))) := (OwAll.mono (Same.refl _) (keeps_same e3057) w3033)
                      have w3073 : OwAll G3014 H3056 L3019 (vs3017) ((acc3016 : (List (List (List Int)))).map (oL (oL oI))) := (OwAll.mono (Same.refl _) (keeps_same e3057) d3018)
                      exact ⟨_, [], [], [], Same.refl _, (S3060.sub (all_cons (.head _) (all_app (L := []) all_nil (all_cons (.tail _ (.tail _ (List.mem_append_right _ (.head _)))) (all_cons (.tail _ (.tail _ (List.mem_append_right _ (.tail _ (.head _))))) (all_cons (.tail _ (.head _)) (all_cons (.tail _ (.tail _ (List.mem_append_right _ (.tail _ (.tail _ (.head _)))))) (all_cons (.tail _ (.tail _ (List.mem_append_right _ (.tail _ (.tail _ (.tail _ (.head _))))))) (all_cons (.tail _ (.tail _ (List.mem_append_right _ (.tail _ (.tail _ (.tail _ (.tail _ (.head _)))))))) (all_cons (.tail _ (.tail _ (List.mem_append_right _ (.tail _ (.tail _ (.tail _ (.tail _ (.tail _ (.head _))))))))) (all_cons (.tail _ (.tail _ (List.mem_append_right _ (.tail _ (.tail _ (.tail _ (.tail _ (.tail _ (.tail _ (.head _)))))))))) (all_cons (.tail _ (.tail _ (List.mem_append_right _ (.tail _ (.tail _ (.tail _ (.tail _ (.tail _ (.tail _ (.tail _ (.head _))))))))))) (all_cons (.tail _ (.tail _ (List.mem_append_right _ (.tail _ (.tail _ (.tail _ (.tail _ (.tail _ (.tail _ (.tail _ (.tail _ (.head _)))))))))))) (all_app ((fun b hb => (.tail _ (.tail _ (List.mem_append_right _ (.tail _ (.tail _ (.tail _ (.tail _ (.tail _ (.tail _ (.tail _ (.tail _ (.tail _ (List.mem_append_left _ hb)))))))))))))) : ∀ b ∈ L2557, b ∈ (D3050 :: (D2965 :: (L3019 ++ (a2555 :: (a2764 :: (p2490 :: (x2500 :: (x2519 :: (p2629 :: (p2742 :: (l2743 :: (l2744 :: (L2557 ++ (L2874 ++ []))))))))))))))) (all_app ((fun b hb => (.tail _ (.tail _ (List.mem_append_right _ (.tail _ (.tail _ (.tail _ (.tail _ (.tail _ (.tail _ (.tail _ (.tail _ (.tail _ (List.mem_append_right _ (List.mem_append_left _ hb))))))))))))))) : ∀ b ∈ L2874, b ∈ (D3050 :: (D2965 :: (L3019 ++ (a2555 :: (a2764 :: (p2490 :: (x2500 :: (x2519 :: (p2629 :: (p2742 :: (l2743 :: (l2744 :: (L2557 ++ (L2874 ++ []))))))))))))))) (all_app ((fun b hb => (.tail _ (.tail _ (List.mem_append_left _ hb)))) : ∀ b ∈ L3019, b ∈ (D3050 :: (D2965 :: (L3019 ++ (a2555 :: (a2764 :: (p2490 :: (x2500 :: (x2519 :: (p2629 :: (p2742 :: (l2743 :: (l2744 :: (L2557 ++ (L2874 ++ []))))))))))))))) all_nil)))))))))))))))), h3061, h3062, h3063, h3064, h3065, h3066, h3067, h3068, h3069, h3070, h3058, w3071, w3072, w3073, OwAll.nil, all_nil, all_nil, e3057, hw⟩
                    · intro i2 H3074 _ hw
                      obtain ⟨G3077, acc3079, vs3080, L3082, eG3078, S3075, h3086, h3087, h3088, h3089, h3090, h3091, h3092, h3093, h3094, h3095, h3076, w3096, w3097, w3098, d3081, nb3083, nd3084, eo3085, hw⟩ := hw
                      have h3099 := (eo3085 _ _ h3042)
                      exact (SqL.of h3099)
                    · intro i2 x H3100 hj hw
                      obtain ⟨G3103, acc3105, vs3106, L3108, eG3104, S3101, h3112, h3113, h3114, h3115, h3116, h3117, h3118, h3119, h3120, h3121, h3102, w3122, w3123, w3124, d3107, nb3109, nd3110, eo3111, hw⟩ := hw
                      have w3126 : OwAll G3103 H3100 L3041 (vs3040) ((x3034 : (List (List Int))).map (oL oI)) := (OwAll.mono eG3104 keeps_refl (OwAll.mono (Same.refl _) (keeps_same eo3111) w3043))
                      obtain ⟨x3125, L3127, hx, w3128, hs3129⟩ := OwAll.turn w3126 hj
                      obtain ⟨b3130, rfl, rfl, h3131⟩ := Ow.toInts w3128
                      have hv3132 := hj
                      have hx3133 := hx
                      obtain ⟨z3134, hw⟩ := cW_mapA hx hw
                      have hw := cW_noEr hw
                      have hw : cW (F_law_c5  (x3125)) _ (fun _ => False) := hw
                      unfold F_law_c5 at hw
                      refine ⟨rfl, ?_⟩
                      refine tyes_go ?_
                      refine ⟨_, rfl, _, _, rfl, (SqL.of h3131), fun p3136 n3137 => ?_⟩
                      generalize g3138 : upd H3100 p3136 _ = H3139
                      obtain ⟨e3140, h3141⟩ := gen_new n3137 g3138
                      have h3142 : H3139 p3136 = some (.lst ((x3125 : (List Int)).map V.int)) := h3141
                      have fr3143 := S3101.free n3137
                      have S3144 := S3101.new n3137 e3140 h3142 fr3143
                      have w3145 : OwAll G3103 H3139 L3108 (vs3106) ((acc3105 : (List (List Int))).map (oL oI)) := (OwAll.mono (Same.refl _) (keeps_same e3140) d3107)
                      have h3146 := (e3140 _ _ h3102)
                      refine ⟨_, h3146, (app_len (OwAll.rpA w3145 (encO_L encO_I) S3144.sG) z3134), ?_⟩
                      generalize g3147 : upd H3139 D3050 _ = H3148
                      obtain ⟨x3149, h3150⟩ := gen_mut g3147
                      have S3151 := S3144.mut1 x3149 (.tail _ (.head _)) h3150
                      have hw := cW_ok hw
                      have h3152 := (x3149 _ _ (e3140 _ _ h3112) (ne_of_none h3023 n3051))
                      have h3153 := (x3149 _ _ (e3140 _ _ h3113) (ne_of_none h3024 n3051))
                      have h3154 := (x3149 _ _ (e3140 _ _ h3114) (ne_of_none h3013 n3051))
                      have h3155 := (x3149 _ _ (e3140 _ _ h3115) (ne_of_none h3025 n3051))
                      have h3156 := (x3149 _ _ (e3140 _ _ h3116) (ne_of_none h3026 n3051))
                      have h3157 := (x3149 _ _ (e3140 _ _ h3117) (ne_of_none h3027 n3051))
                      have h3158 := (x3149 _ _ (e3140 _ _ h3118) (ne_of_none h3028 n3051))
                      have h3159 := (x3149 _ _ (e3140 _ _ h3119) (ne_of_none h3029 n3051))
                      have h3160 := (x3149 _ _ (e3140 _ _ h3120) (ne_of_none h3030 n3051))
                      have h3161 := (x3149 _ _ (e3140 _ _ h3121) (ne_of_none h3031 n3051))
                      have w3162 : OwAll G3103 H3148 L2557 (vs2556) ((setL (v2552) (0) (setL ((itD (v2552) (0))) (0) (setL ((itD ((itD (v2552) (0))) (0))) (0) ((-1)))) : (List (List (List Int)))).map (oL (oL oI))) := (OwAll.mono (Same.refl _) (keeps_mut x3149 ((there_ne (fun b_ hb_ => (S3012.ow b_ (((fun b hb => (.tail _ (List.mem_append_right _ (.tail _ (.tail _ (.tail _ (.tail _ (.tail _ (.tail _ (.tail _ (.tail _ (.tail _ (List.mem_append_left _ hb))))))))))))) : ∀ b ∈ L2557, b ∈ (D2965 :: (L3019 ++ (a2555 :: (a2764 :: (p2490 :: (x2500 :: (x2519 :: (p2629 :: (p2742 :: (l2743 :: (l2744 :: (L2557 ++ (L2874 ++ [])))))))))))))) b_ hb_)).2.1) n3051) : ∀ b ∈ L2557, b ≠ D3050)) (OwAll.mono (Same.refl _) (keeps_same e3140) w3122))
                      have w3163 : OwAll G3103 H3148 L2874 (vs2873) ((references_2872 : (List (List (List (List Int))))).map (oL (oL (oL oI)))) := (OwAll.mono (Same.refl _) (keeps_mut x3149 ((there_ne (fun b_ hb_ => (S3012.ow b_ (((fun b hb => (.tail _ (List.mem_append_right _ (.tail _ (.tail _ (.tail _ (.tail _ (.tail _ (.tail _ (.tail _ (.tail _ (.tail _ (List.mem_append_right _ (List.mem_append_left _ hb)))))))))))))) : ∀ b ∈ L2874, b ∈ (D2965 :: (L3019 ++ (a2555 :: (a2764 :: (p2490 :: (x2500 :: (x2519 :: (p2629 :: (p2742 :: (l2743 :: (l2744 :: (L2557 ++ (L2874 ++ [])))))))))))))) b_ hb_)).2.1) n3051) : ∀ b ∈ L2874, b ≠ D3050)) (OwAll.mono (Same.refl _) (keeps_same e3140) w3123))
                      have w3164 : OwAll G3103 H3148 L3019 (vs3017) ((acc3016 : (List (List (List Int)))).map (oL (oL oI))) := (OwAll.mono (Same.refl _) (keeps_mut x3149 ((there_ne (fun b_ hb_ => (S3012.ow b_ (((fun b hb => (.tail _ (List.mem_append_left _ hb))) : ∀ b ∈ L3019, b ∈ (D2965 :: (L3019 ++ (a2555 :: (a2764 :: (p2490 :: (x2500 :: (x2519 :: (p2629 :: (p2742 :: (l2743 :: (l2744 :: (L2557 ++ (L2874 ++ [])))))))))))))) b_ hb_)).2.1) n3051) : ∀ b ∈ L3019, b ≠ D3050)) (OwAll.mono (Same.refl _) (keeps_same e3140) w3124))
                      exact ⟨_, (acc3105 ++ [x3125]), _, (L3108 ++ (p3136 :: ([] : List Addr))), eG3104, (S3151.sub (all_cons (.tail _ (.head _)) (all_app (all_app ((fun b hb => (.tail _ (.tail _ (List.mem_append_left _ hb)))) : ∀ b ∈ L3108, b ∈ (p3136 :: (D3050 :: (L3108 ++ (a2555 :: (a2764 :: (D2965 :: (p2490 :: (x2500 :: (x2519 :: (p2629 :: (p2742 :: (l2743 :: (l2744 :: (L2557 ++ (L2874 ++ (L3019 ++ []))))))))))))))))) (all_cons (.head _) all_nil)) (all_cons (.tail _ (.tail _ (List.mem_append_right _ (.head _)))) (all_cons (.tail _ (.tail _ (List.mem_append_right _ (.tail _ (.head _))))) (all_cons (.tail _ (.tail _ (List.mem_append_right _ (.tail _ (.tail _ (.head _)))))) (all_cons (.tail _ (.tail _ (List.mem_append_right _ (.tail _ (.tail _ (.tail _ (.head _))))))) (all_cons (.tail _ (.tail _ (List.mem_append_right _ (.tail _ (.tail _ (.tail _ (.tail _ (.head _)))))))) (all_cons (.tail _ (.tail _ (List.mem_append_right _ (.tail _ (.tail _ (.tail _ (.tail _ (.tail _ (.head _))))))))) (all_cons (.tail _ (.tail _ (List.mem_append_right _ (.tail _ (.tail _ (.tail _ (.tail _ (.tail _ (.tail _ (.head _)))))))))) (all_cons (.tail _ (.tail _ (List.mem_append_right _ (.tail _ (.tail _ (.tail _ (.tail _ (.tail _ (.tail _ (.tail _ (.head _))))))))))) (all_cons (.tail _ (.tail _ (List.mem_append_right _ (.tail _ (.tail _ (.tail _ (.tail _ (.tail _ (.tail _ (.tail _ (.tail _ (.head _)))))))))))) (all_cons (.tail _ (.tail _ (List.mem_append_right _ (.tail _ (.tail _ (.tail _ (.tail _ (.tail _ (.tail _ (.tail _ (.tail _ (.tail _ (.head _))))))))))))) (all_app ((fun b hb => (.tail _ (.tail _ (List.mem_append_right _ (.tail _ (.tail _ (.tail _ (.tail _ (.tail _ (.tail _ (.tail _ (.tail _ (.tail _ (.tail _ (List.mem_append_left _ hb))))))))))))))) : ∀ b ∈ L2557, b ∈ (p3136 :: (D3050 :: (L3108 ++ (a2555 :: (a2764 :: (D2965 :: (p2490 :: (x2500 :: (x2519 :: (p2629 :: (p2742 :: (l2743 :: (l2744 :: (L2557 ++ (L2874 ++ (L3019 ++ []))))))))))))))))) (all_app ((fun b hb => (.tail _ (.tail _ (List.mem_append_right _ (.tail _ (.tail _ (.tail _ (.tail _ (.tail _ (.tail _ (.tail _ (.tail _ (.tail _ (.tail _ (List.mem_append_right _ (List.mem_append_left _ hb)))))))))))))))) : ∀ b ∈ L2874, b ∈ (p3136 :: (D3050 :: (L3108 ++ (a2555 :: (a2764 :: (D2965 :: (p2490 :: (x2500 :: (x2519 :: (p2629 :: (p2742 :: (l2743 :: (l2744 :: (L2557 ++ (L2874 ++ (L3019 ++ []))))))))))))))))) (all_app ((fun b hb => (.tail _ (.tail _ (List.mem_append_right _ (.tail _ (.tail _ (.tail _ (.tail _ (.tail _ (.tail _ (.tail _ (.tail _ (.tail _ (.tail _ (List.mem_append_right _ (List.mem_append_right _ (List.mem_append_left _ hb))))))))))))))))) : ∀ b ∈ L3019, b ∈ (p3136 :: (D3050 :: (L3108 ++ (a2555 :: (a2764 :: (D2965 :: (p2490 :: (x2500 :: (x2519 :: (p2629 :: (p2742 :: (l2743 :: (l2744 :: (L2557 ++ (L2874 ++ (L3019 ++ []))))))))))))))))) all_nil)))))))))))))))), h3152, h3153, h3154, h3155, h3156, h3157, h3158, h3159, h3160, h3161, h3150, w3162, w3163, w3164, (OwAll.mono (Same.refl _) (keeps_mut x3149 ((all_app nd3110 (all_cons (ne_of_none h3102 n3137).symm all_nil)) : ∀ b ∈ (L3108 ++ (p3136 :: ([] : List Addr))), b ≠ D3050)) (OwAll.snocM w3145 (Ow.ints h3142) ((fun b hb => (nm_cons ((there_ne (fun b_ hb_ => (S3101.ow b_ (((fun b hb => (.tail _ (List.mem_append_left _ hb))) : ∀ b ∈ L3108, b ∈ (D3050 :: (L3108 ++ (a2555 :: (a2764 :: (D2965 :: (p2490 :: (x2500 :: (x2519 :: (p2629 :: (p2742 :: (l2743 :: (l2744 :: (L2557 ++ (L2874 ++ (L3019 ++ [])))))))))))))))) b_ hb_)).2.1) n3137) b hb) nm_nil)) : ∀ b ∈ L3108, b ∉ (p3136 :: ([] : List Addr))))), ((all_app nb3109 (all_cons (none_of_same eo3111 n3137) all_nil)) : ∀ b ∈ (L3108 ++ (p3136 :: ([] : List Addr))), H3011 b = none), ((all_app nd3110 (all_cons (ne_of_none h3102 n3137).symm all_nil)) : ∀ b ∈ (L3108 ++ (p3136 :: ([] : List Addr))), b ≠ D3050), (same_mut (Same.trans eo3111 e3140) x3149 n3051), hw⟩
                    intro H3165 hw
                    obtain ⟨G3168, acc3170, vs3171, L3173, eG3169, S3166, h3177, h3178, h3179, h3180, h3181, h3182, h3183, h3184, h3185, h3186, h3167, w3187, w3188, w3189, d3172, nb3174, nd3175, eo3176, hw⟩ := hw
                    have w3190 : OwAll G3168 H3165 L3041 (vs3040) ((x3034 : (List (List Int))).map (oL oI)) := (OwAll.mono eG3169 keeps_refl (OwAll.mono (Same.refl _) (keeps_same eo3176) w3043))
                    have hw := hK3049 _ (cW_mapA0 (by rw [(OwAll.rpA w3190 (encO_L encO_I) S3166.sG).len, List.length_map]) hw)
                    have fr3191 := S3012.free n3051
                    refine ⟨_, h3179, (app_len (OwAll.rpA w3189 (encO_L (encO_L encO_I)) S3166.sG) z3045), ?_⟩
                    generalize g3192 : upd H3165 D2965 _ = H3193
                    obtain ⟨x3194, h3195⟩ := gen_mut g3192
                    have S3196 := S3166.mut1 x3194 (.tail _ (List.mem_append_right _ (.tail _ (.tail _ (.head _))))) h3195
                    have hw := cW_ok hw
                    have h3197 := (x3194 _ _ h3177 (ne_of_none (e2939 _ _ (e2926 _ _ (e2913 _ _ h2883))) n2966))
                    have h3198 := (x3194 _ _ h3178 (ne_of_none h2955 n2966))
                    have h3199 := (x3194 _ _ h3180 (ne_of_none (e2939 _ _ (e2926 _ _ (e2913 _ _ h2880))) n2966))
                    have h3200 := (x3194 _ _ h3181 (ne_of_none (e2939 _ _ (e2926 _ _ (e2913 _ _ h2881))) n2966))
                    have h3201 := (x3194 _ _ h3182 (ne_of_none (e2939 _ _ (e2926 _ _ (e2913 _ _ h2882))) n2966))
                    have h3202 := (x3194 _ _ h3183 (ne_of_none (e2939 _ _ (e2926 _ _ (e2913 _ _ h2884))) n2966))
                    have h3203 := (x3194 _ _ h3184 (ne_of_none (e2939 _ _ (e2926 _ _ (e2913 _ _ h2885))) n2966))
                    have h3204 := (x3194 _ _ h3185 (ne_of_none (e2939 _ _ (e2926 _ _ (e2913 _ _ h2886))) n2966))
                    have h3205 := (x3194 _ _ h3186 (ne_of_none (e2939 _ _ (e2926 _ _ (e2913 _ _ h2887))) n2966))
                    have w3206 : OwAll G3168 H3193 L2557 (vs2556) ((setL (v2552) (0) (setL ((itD (v2552) (0))) (0) (setL ((itD ((itD (v2552) (0))) (0))) (0) ((-1)))) : (List (List (List Int)))).map (oL (oL oI))) := (OwAll.mono (Same.refl _) (keeps_mut x3194 ((there_ne (fun b_ hb_ => (S2944.ow b_ (((fun b hb => (.tail _ (.tail _ (.tail _ (.tail _ (.tail _ (.tail _ (.tail _ (.tail _ (.tail _ (.tail _ (.tail _ (.tail _ (List.mem_append_left _ hb)))))))))))))) : ∀ b ∈ L2557, b ∈ (p2935 :: (p2922 :: (p2909 :: (p2490 :: (x2500 :: (x2519 :: (a2555 :: (p2629 :: (p2742 :: (l2743 :: (l2744 :: (a2764 :: (L2557 ++ (L2874 ++ []))))))))))))))) b_ hb_)).2.1) n2966) : ∀ b ∈ L2557, b ≠ D2965)) w3187)
                    have w3207 : OwAll G3168 H3193 L2874 (vs2873) ((references_2872 : (List (List (List (List Int))))).map (oL (oL (oL oI)))) := (OwAll.mono (Same.refl _) (keeps_mut x3194 ((there_ne (fun b_ hb_ => (S2944.ow b_ (((fun b hb => (.tail _ (.tail _ (.tail _ (.tail _ (.tail _ (.tail _ (.tail _ (.tail _ (.tail _ (.tail _ (.tail _ (.tail _ (List.mem_append_right _ (List.mem_append_left _ hb))))))))))))))) : ∀ b ∈ L2874, b ∈ (p2935 :: (p2922 :: (p2909 :: (p2490 :: (x2500 :: (x2519 :: (a2555 :: (p2629 :: (p2742 :: (l2743 :: (l2744 :: (a2764 :: (L2557 ++ (L2874 ++ []))))))))))))))) b_ hb_)).2.1) n2966) : ∀ b ∈ L2874, b ≠ D2965)) w3188)
                    exact ⟨_, (acc3016 ++ [acc3170]), _, (L3019 ++ (D3050 :: L3173)), (Same.trans eG3015 eG3169), (S3196.sub (all_cons (.tail _ (List.mem_append_right _ (.tail _ (.tail _ (.head _))))) (all_app (all_app ((fun b hb => (.tail _ (List.mem_append_right _ (.tail _ (.tail _ (.tail _ (.tail _ (.tail _ (.tail _ (.tail _ (.tail _ (.tail _ (.tail _ (List.mem_append_right _ (List.mem_append_right _ (List.mem_append_left _ hb)))))))))))))))) : ∀ b ∈ L3019, b ∈ (D3050 :: (L3173 ++ (a2555 :: (a2764 :: (D2965 :: (p2490 :: (x2500 :: (x2519 :: (p2629 :: (p2742 :: (l2743 :: (l2744 :: (L2557 ++ (L2874 ++ (L3019 ++ [])))))))))))))))) (all_cons (.head _) ((fun b hb => (.tail _ (List.mem_append_left _ hb))) : ∀ b ∈ L3173, b ∈ (D3050 :: (L3173 ++ (a2555 :: (a2764 :: (D2965 :: (p2490 :: (x2500 :: (x2519 :: (p2629 :: (p2742 :: (l2743 :: (l2744 :: (L2557 ++ (L2874 ++ (L3019 ++ [])))))))))))))))))) (all_cons (.tail _ (List.mem_append_right _ (.head _))) (all_cons (.tail _ (List.mem_append_right _ (.tail _ (.head _)))) (all_cons (.tail _ (List.mem_append_right _ (.tail _ (.tail _ (.tail _ (.head _)))))) (all_cons (.tail _ (List.mem_append_right _ (.tail _ (.tail _ (.tail _ (.tail _ (.head _))))))) (all_cons (.tail _ (List.mem_append_right _ (.tail _ (.tail _ (.tail _ (.tail _ (.tail _ (.head _)))))))) (all_cons (.tail _ (List.mem_append_right _ (.tail _ (.tail _ (.tail _ (.tail _ (.tail _ (.tail _ (.head _))))))))) (all_cons (.tail _ (List.mem_append_right _ (.tail _ (.tail _ (.tail _ (.tail _ (.tail _ (.tail _ (.tail _ (.head _)))))))))) (all_cons (.tail _ (List.mem_append_right _ (.tail _ (.tail _ (.tail _ (.tail _ (.tail _ (.tail _ (.tail _ (.tail _ (.head _))))))))))) (all_cons (.tail _ (List.mem_append_right _ (.tail _ (.tail _ (.tail _ (.tail _ (.tail _ (.tail _ (.tail _ (.tail _ (.tail _ (.head _)))))))))))) (all_app ((fun b hb => (.tail _ (List.mem_append_right _ (.tail _ (.tail _ (.tail _ (.tail _ (.tail _ (.tail _ (.tail _ (.tail _ (.tail _ (.tail _ (List.mem_append_left _ hb)))))))))))))) : ∀ b ∈ L2557, b ∈ (D3050 :: (L3173 ++ (a2555 :: (a2764 :: (D2965 :: (p2490 :: (x2500 :: (x2519 :: (p2629 :: (p2742 :: (l2743 :: (l2744 :: (L2557 ++ (L2874 ++ (L3019 ++ [])))))))))))))))) (all_app ((fun b hb => (.tail _ (List.mem_append_right _ (.tail _ (.tail _ (.tail _ (.tail _ (.tail _ (.tail _ (.tail _ (.tail _ (.tail _ (.tail _ (List.mem_append_right _ (List.mem_append_left _ hb))))))))))))))) : ∀ b ∈ L2874, b ∈ (D3050 :: (L3173 ++ (a2555 :: (a2764 :: (D2965 :: (p2490 :: (x2500 :: (x2519 :: (p2629 :: (p2742 :: (l2743 :: (l2744 :: (L2557 ++ (L2874 ++ (L3019 ++ [])))))))))))))))) all_nil)))))))))))))), h3197, h3198, h3199, h3200, h3201, h3202, h3203, h3204, h3205, h3195, w3206, w3207, (OwAll.mono (Same.refl _) (keeps_mut x3194 ((all_app nd3021 (all_cons (ne_of_none h3013 n3051).symm (new_ne2 nb3174 (S3012.ow _ (.head _)).2.1))) : ∀ b ∈ (L3019 ++ (D3050 :: L3173)), b ≠ D2965)) (OwAll.snocM w3189 (Ow.list h3167 d3172 (nd3175 : ∀ b ∈ L3173, b ≠ D3050)) ((fun b hb => (nm_cons ((there_ne (fun b_ hb_ => (S3012.ow b_ (((fun b hb => (.tail _ (List.mem_append_left _ hb))) : ∀ b ∈ L3019, b ∈ (D2965 :: (L3019 ++ (a2555 :: (a2764 :: (p2490 :: (x2500 :: (x2519 :: (p2629 :: (p2742 :: (l2743 :: (l2744 :: (L2557 ++ (L2874 ++ [])))))))))))))) b_ hb_)).2.1) n3051) b hb) ((nl_symm (new_nl nb3174 (fun b_ hb_ => (S3012.ow b_ (((fun b hb => (.tail _ (List.mem_append_left _ hb))) : ∀ b ∈ L3019, b ∈ (D2965 :: (L3019 ++ (a2555 :: (a2764 :: (p2490 :: (x2500 :: (x2519 :: (p2629 :: (p2742 :: (l2743 :: (l2744 :: (L2557 ++ (L2874 ++ [])))))))))))))) b_ hb_)).2.1))) b hb))) : ∀ b ∈ L3019, b ∉ (D3050 :: L3173)))), ((all_app nb3020 (all_cons (none_of_same eo3022 n3051) (fun b hb => none_of_same eo3022 (nb3174 b hb)))) : ∀ b ∈ (L3019 ++ (D3050 :: L3173)), H2938 b = none), ((all_app nd3021 (all_cons (ne_of_none h3013 n3051).symm (new_ne2 nb3174 (S3012.ow _ (.head _)).2.1))) : ∀ b ∈ (L3019 ++ (D3050 :: L3173)), b ≠ D2965), (same_mut (Same.trans eo3022 eo3176) x3194 n2966), hw⟩
                  intro H3208 hw
                  obtain ⟨G3211, acc3213, vs3214, L3216, eG3212, S3209, h3220, h3221, h3222, h3223, h3224, h3225, h3226, h3227, h3228, h3210, w3229, w3230, d3215, nb3217, nd3218, eo3219, hw⟩ := hw
                  have w3231 : OwAll G3211 H3208 L2958 (vs2957) (((itD (references_2872) (x2903)) : (List (List (List Int)))).map (oL (oL oI))) := (OwAll.mono eG3212 keeps_refl (OwAll.mono (Same.refl _) (keeps_same eo3219) w2960))
                  have hw := hK2964 _ (cW_mapA0 (by rw [(OwAll.rpA w3231 (encO_L (encO_L encO_I)) S3209.sG).len, List.length_map]) hw)
                  have fr3232 := S2944.free n2966
                  obtain ⟨g3233, hw⟩ := cW_grd hw
                  obtain ⟨v3234, L3235, a3236, w3237, hs3238, up3239, gr3240⟩ := OwAll.partM (k := x2903) w3230 g3233
                  obtain ⟨b3241, vs3242, L3243, rfl, rfl, h3244, w3245, nb3246⟩ := Ow.toList w3237
                  refine ⟨_, rfl, _, rfl, _, _, _, _, rfl, rfl, (SqL.of h3221), a3236, _, _, _, rfl, (SqL.of h3244), (by rw [(OwAll.rpA w3245 (encO_L (encO_L encO_I)) S3209.sG).len, List.length_map]), _, _, rfl, rfl, ?_⟩
                  have hw := cW_bnd hw
                  obtain ⟨g3248, hw⟩ := cW_grd hw
                  obtain ⟨v3249, L3250, a3251, w3252, hs3253, up3254, gr3255⟩ := OwAll.partM (k := x2903) w3230 g3248
                  obtain ⟨b3256, vs3257, L3258, rfl, rfl, h3259, w3260, nb3261⟩ := Ow.toList w3252
                  obtain ⟨g3262, hw⟩ := cW_grd hw
                  obtain ⟨v3263, L3264, a3265, w3266, hs3267, up3268, gr3269⟩ := OwAll.partM (k := (((((itD (references_2872) (x2903))) : (List (List (List Int)))).length : Int) - 1)) w3260 g3262
                  obtain ⟨b3270, vs3271, L3272, rfl, rfl, h3273, w3274, nb3275⟩ := Ow.toList w3266
                  obtain ⟨g3276, hw⟩ := cW_grd hw
                  obtain ⟨v3277, L3278, a3279, w3280, hs3281, up3282, gr3283⟩ := OwAll.partM (k := (((((itD (references_2872) (x2903))) : (List (List (List Int)))).length : Int) - 1)) d3215 g3276
                  obtain ⟨b3284, vs3285, L3286, rfl, rfl, h3287, w3288, nb3289⟩ := Ow.toList w3280
                  obtain ⟨g3290, hw⟩ := cW_grd hw
                  obtain ⟨v3291, L3292, a3293, w3294, hs3295, up3296, gr3297⟩ := OwAll.partM (k := (((((itD (acc3213) ((((((itD (references_2872) (x2903))) : (List (List (List Int)))).length : Int) - 1)))) : (List (List Int))).length : Int) - 1)) w3274 g3290
                  obtain ⟨b3298, rfl, rfl, h3299⟩ := Ow.toInts w3294
                  obtain ⟨g3300, hw⟩ := cW_grd hw
                  refine ⟨_, rfl, _, rfl, _, rfl, _, _, _, _, rfl, rfl, (SqL.of h3221), a3251, _, rfl, _, _, _, _, rfl, rfl, (SqL.of h3259), a3265, _, rfl, _, rfl, _, _, _, _, rfl, rfl, (SqL.of h3210), a3279, _, _, _, rfl, (SqL.of h3287), (by rw [(OwAll.rpA w3288 (encO_L encO_I) S3209.sG).len, List.length_map]), _, _, rfl, rfl, _, _, _, _, rfl, rfl, (SqL.of h3273), a3293, _, _, _, _, rfl, rfl, h3299, (ixN_map g3300), ?_⟩
                  generalize g3301 : upd H3208 b3298 _ = H3302
                  obtain ⟨x3303, h3304⟩ := gen_mut g3301
                  have h3305 : H3302 b3298 = some (.lst ((setL ((itD ((itD ((itD (references_2872) (x2903))) ((((((itD (references_2872) (x2903))) : (List (List (List Int)))).length : Int) - 1)))) ((((((itD (acc3213) ((((((itD (references_2872) (x2903))) : (List (List (List Int)))).length : Int) - 1)))) : (List (List Int))).length : Int) - 1)))) (0) ((-1)) : (List Int)).map V.int)) := set_map h3304
                  have S3306 := S3209.mut1 x3303 (((fun b hb => ((fun b hb => (((fun b hb => (.tail _ (List.mem_append_right _ (.tail _ (.tail _ (.tail _ (.tail _ (.tail _ (.tail _ (.tail _ (.tail _ (.tail _ (List.mem_append_right _ (List.mem_append_left _ hb)))))))))))))) : ∀ b ∈ L2874, b ∈ (D2965 :: (L3216 ++ (a2555 :: (a2764 :: (p2490 :: (x2500 :: (x2519 :: (p2629 :: (p2742 :: (l2743 :: (l2744 :: (L2557 ++ (L2874 ++ [])))))))))))))) : ∀ b ∈ L2874, b ∈ (D2965 :: (L3216 ++ (a2555 :: (a2764 :: (p2490 :: (x2500 :: (x2519 :: (p2629 :: (p2742 :: (l2743 :: (l2744 :: (L2557 ++ (L2874 ++ [])))))))))))))) b ((fun c hc => hs3253 c (List.mem_cons_of_mem _ hc)) b hb)) : ∀ b ∈ L3258, b ∈ (D2965 :: (L3216 ++ (a2555 :: (a2764 :: (p2490 :: (x2500 :: (x2519 :: (p2629 :: (p2742 :: (l2743 :: (l2744 :: (L2557 ++ (L2874 ++ [])))))))))))))) b ((fun c hc => hs3267 c (List.mem_cons_of_mem _ hc)) b hb)) : ∀ b ∈ L3272, b ∈ (D2965 :: (L3216 ++ (a2555 :: (a2764 :: (p2490 :: (x2500 :: (x2519 :: (p2629 :: (p2742 :: (l2743 :: (l2744 :: (L2557 ++ (L2874 ++ [])))))))))))))) _ (hs3295 _ List.mem_cons_self)) h3305
                  have w3307 : OwAll G3211 H3302 L3272 (vs3271) ((setL ((itD ((itD (references_2872) (x2903))) ((((((itD (references_2872) (x2903))) : (List (List (List Int)))).length : Int) - 1)))) ((((((itD (acc3213) ((((((itD (references_2872) (x2903))) : (List (List (List Int)))).length : Int) - 1)))) : (List (List Int))).length : Int) - 1)) (setL ((itD ((itD ((itD (references_2872) (x2903))) ((((((itD (references_2872) (x2903))) : (List (List (List Int)))).length : Int) - 1)))) ((((((itD (acc3213) ((((((itD (references_2872) (x2903))) : (List (List (List Int)))).length : Int) - 1)))) : (List (List Int))).length : Int) - 1)))) (0) ((-1))) : (List (List Int))).map (oL oI)) := upd_tree up3296 x3303 List.mem_cons_self (Ow.ints h3305)
                  have hw := cW_bnd hw
                  have h3309 := (x3303 _ _ h3273 (nb3275 _ (hs3295 _ List.mem_cons_self)).symm)
                  have w3310 : OwAll G3211 H3302 L3258 (vs3257) ((setL ((itD (references_2872) (x2903))) ((((((itD (references_2872) (x2903))) : (List (List (List Int)))).length : Int) - 1)) (setL ((itD ((itD (references_2872) (x2903))) ((((((itD (references_2872) (x2903))) : (List (List (List Int)))).length : Int) - 1)))) ((((((itD (acc3213) ((((((itD (references_2872) (x2903))) : (List (List (List Int)))).length : Int) - 1)))) : (List (List Int))).length : Int) - 1)) (setL ((itD ((itD ((itD (references_2872) (x2903))) ((((((itD (references_2872) (x2903))) : (List (List (List Int)))).length : Int) - 1)))) ((((((itD (acc3213) ((((((itD (references_2872) (x2903))) : (List (List (List Int)))).length : Int) - 1)))) : (List (List Int))).length : Int) - 1)))) (0) ((-1)))) : (List (List (List Int)))).map (oL (oL oI))) := upd_tree up3268 x3303 (List.mem_cons_of_mem _ (hs3295 _ List.mem_cons_self)) (Ow.list h3309 w3307 (nb3275 : ∀ b ∈ L3272, b ≠ b3270))
                  have hw := cW_bnd hw
                  have h3312 := (x3303 _ _ h3259 (((fun b hb => (nb3261 : ∀ b ∈ L3258, b ≠ b3256) b ((fun c hc => hs3267 c (List.mem_cons_of_mem _ hc)) b hb)) : ∀ b ∈ L3272, b ≠ b3256) _ (hs3295 _ List.mem_cons_self)).symm)
                  have w3313 : OwAll G3211 H3302 L2874 (vs2873) ((setL (references_2872) (x2903) (setL ((itD (references_2872) (x2903))) ((((((itD (references_2872) (x2903))) : (List (List (List Int)))).length : Int) - 1)) (setL ((itD ((itD (references_2872) (x2903))) ((((((itD (references_2872) (x2903))) : (List (List (List Int)))).length : Int) - 1)))) ((((((itD (acc3213) ((((((itD (references_2872) (x2903))) : (List (List (List Int)))).length : Int) - 1)))) : (List (List Int))).length : Int) - 1)) (setL ((itD ((itD ((itD (references_2872) (x2903))) ((((((itD (references_2872) (x2903))) : (List (List (List Int)))).length : Int) - 1)))) ((((((itD (acc3213) ((((((itD (references_2872) (x2903))) : (List (List (List Int)))).length : Int) - 1)))) : (List (List Int))).length : Int) - 1)))) (0) ((-1))))) : (List (List (List (List Int))))).map (oL (oL (oL oI)))) := upd_tree up3254 x3303 (List.mem_cons_of_mem _ (hs3267 _ (List.mem_cons_of_mem _ (hs3295 _ List.mem_cons_self)))) (Ow.list h3312 w3310 (nb3261 : ∀ b ∈ L3258, b ≠ b3256))
                  have hw := cW_bnd hw
                  obtain ⟨g3315, hw⟩ := cW_grd hw
                  have w3316 : OwAll G3211 H3302 L3216 (vs3214) ((acc3213 : (List (List (List Int)))).map (oL (oL oI))) := (OwAll.mono (Same.refl _) (keeps_mut x3303 ((fun b hb z => (fun b hb => ((nl_symm (fun c hc => ((fun c hc => ((nl_symm (new_nl nb3217 (fun b_ hb_ => (S2944.ow b_ (((fun b hb => (.tail _ (.tail _ (.tail _ (.tail _ (.tail _ (.tail _ (.tail _ (.tail _ (.tail _ (.tail _ (.tail _ (.tail _ (List.mem_append_right _ (List.mem_append_left _ hb))))))))))))))) : ∀ b ∈ L2874, b ∈ (p2935 :: (p2922 :: (p2909 :: (p2490 :: (x2500 :: (x2519 :: (a2555 :: (p2629 :: (p2742 :: (l2743 :: (l2744 :: (a2764 :: (L2557 ++ (L2874 ++ []))))))))))))))) b_ hb_)).2.1))) : ∀ c ∈ L2874, c ∉ L3216) c ((fun c hc => hs3253 c (List.mem_cons_of_mem _ hc)) c hc)) : ∀ c ∈ L3258, c ∉ L3216) c ((fun c hc => hs3267 c (List.mem_cons_of_mem _ hc)) c hc))) b hb)) b hb (z ▸ (hs3295 _ List.mem_cons_self))) : ∀ b ∈ L3216, b ≠ b3298)) d3215)
                  obtain ⟨v3317, L3318, a3319, w3320, hs3321, up3322, gr3323⟩ := OwAll.partM (k := (((((itD (references_2872) (x2903))) : (List (List (List Int)))).length : Int) - 1)) w3316 g3315
                  have h3324 := (x3303 _ _ h3210 ((((fun b hb => ((fun b hb => ((there_ne (fun b_ hb_ => (S2944.ow b_ (((fun b hb => (.tail _ (.tail _ (.tail _ (.tail _ (.tail _ (.tail _ (.tail _ (.tail _ (.tail _ (.tail _ (.tail _ (.tail _ (List.mem_append_right _ (List.mem_append_left _ hb))))))))))))))) : ∀ b ∈ L2874, b ∈ (p2935 :: (p2922 :: (p2909 :: (p2490 :: (x2500 :: (x2519 :: (a2555 :: (p2629 :: (p2742 :: (l2743 :: (l2744 :: (a2764 :: (L2557 ++ (L2874 ++ []))))))))))))))) b_ hb_)).2.1) n2966) : ∀ b ∈ L2874, b ≠ D2965) b ((fun c hc => hs3253 c (List.mem_cons_of_mem _ hc)) b hb)) : ∀ b ∈ L3258, b ≠ D2965) b ((fun c hc => hs3267 c (List.mem_cons_of_mem _ hc)) b hb)) : ∀ b ∈ L3272, b ≠ D2965) _ (hs3295 _ List.mem_cons_self))).symm)
                  obtain ⟨b3325, vs3326, L3327, rfl, rfl, h3328, w3329, nb3330⟩ := Ow.toList w3320
                  obtain ⟨g3331, hw⟩ := cW_grd hw
                  obtain ⟨v3332, L3333, a3334, w3335, hs3336, up3337, gr3338⟩ := OwAll.partM (k := (((((itD (references_2872) (x2903))) : (List (List (List Int)))).length : Int) - 1)) w3316 g3331
                  obtain ⟨b3339, vs3340, L3341, rfl, rfl, h3342, w3343, nb3344⟩ := Ow.toList w3335
                  obtain ⟨g3345, hw⟩ := cW_grd hw
                  obtain ⟨v3346, L3347, a3348, w3349, hs3350, up3351, gr3352⟩ := OwAll.partM (k := (((((itD (acc3213) ((((((itD (references_2872) (x2903))) : (List (List (List Int)))).length : Int) - 1)))) : (List (List Int))).length : Int) - 1)) w3329 g3345
                  obtain ⟨b3353, rfl, rfl, h3354⟩ := Ow.toInts w3349
                  obtain ⟨g3355, hw⟩ := cW_grd hw
                  refine ⟨_, rfl, _, rfl, _, rfl, _, _, _, _, rfl, rfl, (SqL.of h3324), a3319, _, rfl, _, rfl, _, _, _, _, rfl, rfl, (SqL.of h3324), a3334, _, _, _, rfl, (SqL.of h3342), (by rw [(OwAll.rpA w3343 (encO_L encO_I) S3306.sG).len, List.length_map]), _, _, rfl, rfl, _, _, _, _, rfl, rfl, (SqL.of h3328), a3348, _, _, _, _, rfl, rfl, h3354, (ixN_map g3355), ?_⟩
                  generalize g3356 : upd H3302 b3353 _ = H3357
                  obtain ⟨x3358, h3359⟩ := gen_mut g3356
                  have h3360 : H3357 b3353 = some (.lst ((setL ((itD ((itD (acc3213) ((((((itD (references_2872) (x2903))) : (List (List (List Int)))).length : Int) - 1)))) ((((((itD (acc3213) ((((((itD (references_2872) (x2903))) : (List (List (List Int)))).length : Int) - 1)))) : (List (List Int))).length : Int) - 1)))) (0) ((-1)) : (List Int)).map V.int)) := set_map h3359
                  have S3361 := S3306.mut1 x3358 (((fun b hb => (((fun b hb => (.tail _ (List.mem_append_left _ hb))) : ∀ b ∈ L3216, b ∈ (D2965 :: (L3216 ++ (a2555 :: (a2764 :: (p2490 :: (x2500 :: (x2519 :: (p2629 :: (p2742 :: (l2743 :: (l2744 :: (L2557 ++ (L2874 ++ [])))))))))))))) : ∀ b ∈ L3216, b ∈ (D2965 :: (L3216 ++ (a2555 :: (a2764 :: (p2490 :: (x2500 :: (x2519 :: (p2629 :: (p2742 :: (l2743 :: (l2744 :: (L2557 ++ (L2874 ++ [])))))))))))))) b ((fun c hc => hs3321 c (List.mem_cons_of_mem _ hc)) b hb)) : ∀ b ∈ L3327, b ∈ (D2965 :: (L3216 ++ (a2555 :: (a2764 :: (p2490 :: (x2500 :: (x2519 :: (p2629 :: (p2742 :: (l2743 :: (l2744 :: (L2557 ++ (L2874 ++ [])))))))))))))) _ (hs3350 _ List.mem_cons_self)) h3360
                  have w3362 : OwAll G3211 H3357 L3327 (vs3326) ((setL ((itD (acc3213) ((((((itD (references_2872) (x2903))) : (List (List (List Int)))).length : Int) - 1)))) ((((((itD (acc3213) ((((((itD (references_2872) (x2903))) : (List (List (List Int)))).length : Int) - 1)))) : (List (List Int))).length : Int) - 1)) (setL ((itD ((itD (acc3213) ((((((itD (references_2872) (x2903))) : (List (List (List Int)))).length : Int) - 1)))) ((((((itD (acc3213) ((((((itD (references_2872) (x2903))) : (List (List (List Int)))).length : Int) - 1)))) : (List (List Int))).length : Int) - 1)))) (0) ((-1))) : (List (List Int))).map (oL oI)) := upd_tree up3351 x3358 List.mem_cons_self (Ow.ints h3360)
                  have hw := cW_bnd hw
                  have h3364 := (x3358 _ _ h3328 (nb3330 _ (hs3350 _ List.mem_cons_self)).symm)
                  have w3365 : OwAll G3211 H3357 L3216 (vs3214) ((setL (acc3213) ((((((itD (references_2872) (x2903))) : (List (List (List Int)))).length : Int) - 1)) (setL ((itD (acc3213) ((((((itD (references_2872) (x2903))) : (List (List (List Int)))).length : Int) - 1)))) ((((((itD (acc3213) ((((((itD (references_2872) (x2903))) : (List (List (List Int)))).length : Int) - 1)))) : (List (List Int))).length : Int) - 1)) (setL ((itD ((itD (acc3213) ((((((itD (references_2872) (x2903))) : (List (List (List Int)))).length : Int) - 1)))) ((((((itD (acc3213) ((((((itD (references_2872) (x2903))) : (List (List (List Int)))).length : Int) - 1)))) : (List (List Int))).length : Int) - 1)))) (0) ((-1)))) : (List (List (List Int)))).map (oL (oL oI))) := upd_tree up3322 x3358 (List.mem_cons_of_mem _ (hs3350 _ List.mem_cons_self)) (Ow.list h3364 w3362 (nb3330 : ∀ b ∈ L3327, b ≠ b3325))
                  have hw := cW_bnd hw
                  obtain ⟨g3367, hw⟩ := cW_grd hw
                  have w3368 : OwAll G3211 H3357 L2874 (vs2873) ((setL (references_2872) (x2903) (setL ((itD (references_2872) (x2903))) ((((((itD (references_2872) (x2903))) : (List (List (List Int)))).length : Int) - 1)) (setL ((itD ((itD (references_2872) (x2903))) ((((((itD (references_2872) (x2903))) : (List (List (List Int)))).length : Int) - 1)))) ((((((itD (acc3213) ((((((itD (references_2872) (x2903))) : (List (List (List Int)))).length : Int) - 1)))) : (List (List Int))).length : Int) - 1)) (setL ((itD ((itD ((itD (references_2872) (x2903))) ((((((itD (references_2872) (x2903))) : (List (List (List Int)))).length : Int) - 1)))) ((((((itD (acc3213) ((((((itD (references_2872) (x2903))) : (List (List (List Int)))).length : Int) - 1)))) : (List (List Int))).length : Int) - 1)))) (0) ((-1))))) : (List (List (List (List Int))))).map (oL (oL (oL oI)))) := (OwAll.mono (Same.refl _) (keeps_mut x3358 ((fun b hb z => (fun b hb => ((nl_symm (fun c hc => ((new_nl nb3217 (fun b_ hb_ => (S2944.ow b_ (((fun b hb => (.tail _ (.tail _ (.tail _ (.tail _ (.tail _ (.tail _ (.tail _ (.tail _ (.tail _ (.tail _ (.tail _ (.tail _ (List.mem_append_right _ (List.mem_append_left _ hb))))))))))))))) : ∀ b ∈ L2874, b ∈ (p2935 :: (p2922 :: (p2909 :: (p2490 :: (x2500 :: (x2519 :: (a2555 :: (p2629 :: (p2742 :: (l2743 :: (l2744 :: (a2764 :: (L2557 ++ (L2874 ++ []))))))))))))))) b_ hb_)).2.1)) : ∀ c ∈ L3216, c ∉ L2874) c ((fun c hc => hs3321 c (List.mem_cons_of_mem _ hc)) c hc))) b hb)) b hb (z ▸ (hs3350 _ List.mem_cons_self))) : ∀ b ∈ L2874, b ≠ b3353)) w3313)
                  obtain ⟨v3369, L3370, a3371, w3372, hs3373, up3374, gr3375⟩ := OwAll.partM (k := x2903) w3368 g3367
                  have h3376 := (x3358 _ _ (x3303 _ _ h3221 ((((fun b hb => ((fun b hb => (ne2897 : ∀ b ∈ L2874, b ≠ a2764) b ((fun c hc => hs3253 c (List.mem_cons_of_mem _ hc)) b hb)) : ∀ b ∈ L3258, b ≠ a2764) b ((fun c hc => hs3267 c (List.mem_cons_of_mem _ hc)) b hb)) : ∀ b ∈ L3272, b ≠ a2764) _ (hs3295 _ List.mem_cons_self))).symm) ((((fun b hb => ((new_ne2 nb3217 (S2944.ow _ (.tail _ (.tail _ (.tail _ (.tail _ (.tail _ (.tail _ (.tail _ (.tail _ (.tail _ (.tail _ (.tail _ (.head _))))))))))))).2.1) : ∀ b ∈ L3216, b ≠ a2764) b ((fun c hc => hs3321 c (List.mem_cons_of_mem _ hc)) b hb)) : ∀ b ∈ L3327, b ≠ a2764) _ (hs3350 _ List.mem_cons_self))).symm)
                  obtain ⟨b3377, vs3378, L3379, rfl, rfl, h3380, w3381, nb3382⟩ := Ow.toList w3372
                  have h3383 := (x3358 _ _ h3324 ((((fun b hb => (nd3218 : ∀ b ∈ L3216, b ≠ D2965) b ((fun c hc => hs3321 c (List.mem_cons_of_mem _ hc)) b hb)) : ∀ b ∈ L3327, b ≠ D2965) _ (hs3350 _ List.mem_cons_self))).symm)
                  refine ⟨_, rfl, _, rfl, _, _, _, _, rfl, rfl, (SqL.of h3376), a3371, _, rfl, _, _, (rp_mk_list h3380 (OwAll.rpA w3381 (encO_L (encO_L encO_I)) S3361.sG)), (rp_mk_list h3383 (OwAll.rpA w3365 (encO_L (encO_L encO_I)) S3361.sG)), _, rfl, ?_⟩
                  refine iteN (fun c3384 => ?_) (fun c3384 => ?_)
                  · have hw := cW_neg c3384 hw
                    refine iteT ?_
                    have hw := cW_ok hw
                    have hw := hK2906 (.rt _) hw
                    have hw := hK2870 (.rt _) hw
                    have hw := cW_ok hw
                    exact eq_bl (k _) (hK0 _ hw).symm
                  · have hw := cW_pos c3384 hw
                    have d3385 := cut_all none (some (x2903)) (OwAll.rpA w3368 (encO_L (encO_L (encO_L encO_I))) S3361.sG)
                    refine ⟨_, rfl, _, rfl, _, rfl, _, _, rfl, (SqL.of h3376), fun p3386 n3387 => ?_⟩
                    generalize g3388 : upd H3357 p3386 _ = H3389
                    obtain ⟨e3390, h3391⟩ := gen_new n3387 g3388
                    have h3392 : H3389 p3386 = some (.lst (cutV (vs2873) none (some (x2903)))) := h3391
                    have fr3394 := S3361.free n3387
                    have S3395 := S3361.new n3387 e3390 h3392 fr3394
                    have d3393 : RpAll H3389 (cutV (vs2873) none (some (x2903))) ((cutL (setL (references_2872) (x2903) (setL ((itD (references_2872) (x2903))) ((((((itD (references_2872) (x2903))) : (List (List (List Int)))).length : Int) - 1)) (setL ((itD ((itD (references_2872) (x2903))) ((((((itD (references_2872) (x2903))) : (List (List (List Int)))).length : Int) - 1)))) ((((((itD (acc3213) ((((((itD (references_2872) (x2903))) : (List (List (List Int)))).length : Int) - 1)))) : (List (List Int))).length : Int) - 1)) (setL ((itD ((itD ((itD (references_2872) (x2903))) ((((((itD (references_2872) (x2903))) : (List (List (List Int)))).length : Int) - 1)))) ((((((itD (acc3213) ((((((itD (references_2872) (x2903))) : (List (List (List Int)))).length : Int) - 1)))) : (List (List Int))).length : Int) - 1)))) (0) ((-1)))))) none (some (x2903)) : (List (List (List (List Int))))).map (encL (encL (encL PyData.int)))) := RpAll.mono e3390 d3385
                    have h3396 := (e3390 _ _ h3376)
                    have w3397 : OwAll G3211 H3389 L2874 (vs2873) ((setL (references_2872) (x2903) (setL ((itD (references_2872) (x2903))) ((((((itD (references_2872) (x2903))) : (List (List (List Int)))).length : Int) - 1)) (setL ((itD ((itD (references_2872) (x2903))) ((((((itD (references_2872) (x2903))) : (List (List (List Int)))).length : Int) - 1)))) ((((((itD (acc3213) ((((((itD (references_2872) (x2903))) : (List (List (List Int)))).length : Int) - 1)))) : (List (List Int))).length : Int) - 1)) (setL ((itD ((itD ((itD (references_2872) (x2903))) ((((((itD (references_2872) (x2903))) : (List (List (List Int)))).length : Int) - 1)))) ((((((itD (acc3213) ((((((itD (references_2872) (x2903))) : (List (List (List Int)))).length : Int) - 1)))) : (List (List Int))).length : Int) - 1)))) (0) ((-1))))) : (List (List (List (List Int))))).map (oL (oL (oL oI)))) := (OwAll.mono (Same.refl _) (keeps_same e3390) w3368)
                    have d3398 := cut_all (some ((x2903 + 1))) none (OwAll.rpA w3397 (encO_L (encO_L (encO_L encO_I))) S3395.sG)
                    refine ⟨_, rfl, _, rfl, _, _, rfl, rfl, _, rfl, _, _, rfl, (SqL.of h3396), fun p3399 n3400 => ?_⟩
                    generalize g3401 : upd H3389 p3399 _ = H3402
                    obtain ⟨e3403, h3404⟩ := gen_new n3400 g3401
                    have h3405 : H3402 p3399 = some (.lst (cutV (vs2873) (some ((x2903 + 1))) none)) := h3404
                    have fr3407 := S3395.free n3400
                    have S3408 := S3395.new n3400 e3403 h3405 fr3407
                    have d3406 : RpAll H3402 (cutV (vs2873) (some ((x2903 + 1))) none) ((cutL (setL (references_2872) (x2903) (setL ((itD (references_2872) (x2903))) ((((((itD (references_2872) (x2903))) : (List (List (List Int)))).length : Int) - 1)) (setL ((itD ((itD (references_2872) (x2903))) ((((((itD (references_2872) (x2903))) : (List (List (List Int)))).length : Int) - 1)))) ((((((itD (acc3213) ((((((itD (references_2872) (x2903))) : (List (List (List Int)))).length : Int) - 1)))) : (List (List Int))).length : Int) - 1)) (setL ((itD ((itD ((itD (references_2872) (x2903))) ((((((itD (references_2872) (x2903))) : (List (List (List Int)))).length : Int) - 1)))) ((((((itD (acc3213) ((((((itD (references_2872) (x2903))) : (List (List (List Int)))).length : Int) - 1)))) : (List (List Int))).length : Int) - 1)))) (0) ((-1)))))) (some ((x2903 + 1))) none : (List (List (List (List Int))))).map (encL (encL (encL PyData.int)))) := RpAll.mono e3403 d3398
                    obtain ⟨g3409, hw⟩ := cW_grd hw
                    have h3410 := (e3403 _ _ h3392)
                    have d3411 := app_map (RpAll.mono e3403 d3393) d3406
                    refine ⟨_, _, _, _, rfl, rfl, h3410, h3405, (cat_len2 (RpAll.mono e3403 d3393) d3406 g3409), fun p3412 n3413 => ?_⟩
                    generalize g3414 : upd H3402 p3412 _ = H3415
                    obtain ⟨e3416, h3417⟩ := gen_new n3413 g3414
                    have h3418 : H3415 p3412 = some (.lst (cutV (vs2873) none (some (x2903)) ++ cutV (vs2873) (some ((x2903 + 1))) none)) := h3417
                    have fr3420 := S3408.free n3413
                    have S3421 := S3408.new n3413 e3416 h3418 fr3420
                    have d3419 : RpAll H3415 (cutV (vs2873) none (some (x2903)) ++ cutV (vs2873) (some ((x2903 + 1))) none) (((cutL (setL (references_2872) (x2903) (setL ((itD (references_2872) (x2903))) ((((((itD (references_2872) (x2903))) : (List (List (List Int)))).length : Int) - 1)) (setL ((itD ((itD (references_2872) (x2903))) ((((((itD (references_2872) (x2903))) : (List (List (List Int)))).length : Int) - 1)))) ((((((itD (acc3213) ((((((itD (references_2872) (x2903))) : (List (List (List Int)))).length : Int) - 1)))) : (List (List Int))).length : Int) - 1)) (setL ((itD ((itD ((itD (references_2872) (x2903))) ((((((itD (references_2872) (x2903))) : (List (List (List Int)))).length : Int) - 1)))) ((((((itD (acc3213) ((((((itD (references_2872) (x2903))) : (List (List (List Int)))).length : Int) - 1)))) : (List (List Int))).length : Int) - 1)))) (0) ((-1)))))) none (some (x2903))) ++ (cutL (setL (references_2872) (x2903) (setL ((itD (references_2872) (x2903))) ((((((itD (references_2872) (x2903))) : (List (List (List Int)))).length : Int) - 1)) (setL ((itD ((itD (references_2872) (x2903))) ((((((itD (references_2872) (x2903))) : (List (List (List Int)))).length : Int) - 1)))) ((((((itD (acc3213) ((((((itD (references_2872) (x2903))) : (List (List (List Int)))).length : Int) - 1)))) : (List (List Int))).length : Int) - 1)) (setL ((itD ((itD ((itD (references_2872) (x2903))) ((((((itD (references_2872) (x2903))) : (List (List (List Int)))).length : Int) - 1)))) ((((((itD (acc3213) ((((((itD (references_2872) (x2903))) : (List (List (List Int)))).length : Int) - 1)))) : (List (List Int))).length : Int) - 1)))) (0) ((-1)))))) (some ((x2903 + 1))) none) : (List (List (List (List Int))))).map (encL (encL (encL PyData.int)))) := RpAll.mono e3416 d3411
                    obtain ⟨g3422, hw⟩ := cW_grd hw
                    refine ⟨_, ((encL (encL (encL (encL PyData.int)))) ((cutL (setL (references_2872) (x2903) (setL ((itD (references_2872) (x2903))) ((((((itD (references_2872) (x2903))) : (List (List (List Int)))).length : Int) - 1)) (setL ((itD ((itD (references_2872) (x2903))) ((((((itD (references_2872) (x2903))) : (List (List (List Int)))).length : Int) - 1)))) ((((((itD (acc3213) ((((((itD (references_2872) (x2903))) : (List (List (List Int)))).length : Int) - 1)))) : (List (List Int))).length : Int) - 1)) (setL ((itD ((itD ((itD (references_2872) (x2903))) ((((((itD (references_2872) (x2903))) : (List (List (List Int)))).length : Int) - 1)))) ((((((itD (acc3213) ((((((itD (references_2872) (x2903))) : (List (List (List Int)))).length : Int) - 1)))) : (List (List Int))).length : Int) - 1)))) (0) ((-1)))))) none (some (x2903))) ++ (cutL (setL (references_2872) (x2903) (setL ((itD (references_2872) (x2903))) ((((((itD (references_2872) (x2903))) : (List (List (List Int)))).length : Int) - 1)) (setL ((itD ((itD (references_2872) (x2903))) ((((((itD (references_2872) (x2903))) : (List (List (List Int)))).length : Int) - 1)))) ((((((itD (acc3213) ((((((itD (references_2872) (x2903))) : (List (List (List Int)))).length : Int) - 1)))) : (List (List Int))).length : Int) - 1)) (setL ((itD ((itD ((itD (references_2872) (x2903))) ((((((itD (references_2872) (x2903))) : (List (List (List Int)))).length : Int) - 1)))) ((((((itD (acc3213) ((((((itD (references_2872) (x2903))) : (List (List (List Int)))).length : Int) - 1)))) : (List (List Int))).length : Int) - 1)))) (0) ((-1)))))) (some ((x2903 + 1))) none))), rfl, (rp_mk_list h3418 d3419), g3422, _, rfl, rfl, _, rfl, ?_⟩
                    refine iteN (fun c3423 => ?_) (fun c3423 => ?_)
                    · have hw := cW_neg c3423 hw
                      have hw := cW_ok hw
                      have hw := hK2906 (.rt _) hw
                      have hw := hK2870 (.rt _) hw
                      have hw := cW_ok hw
                      exact eq_bl (k _) (hK0 _ hw).symm
                    · have hw := cW_pos c3423 hw
                      have hw := cW_ok hw
                      have hw := hK2906 _ hw
                      have h3424 := (e3416 _ _ (e3403 _ _ (e3390 _ _ (x3358 _ _ (x3303 _ _ h3222 ((((fun b hb => ((fun b hb => (ne2889 : ∀ b ∈ L2874, b ≠ p2490) b ((fun c hc => hs3253 c (List.mem_cons_of_mem _ hc)) b hb)) : ∀ b ∈ L3258, b ≠ p2490) b ((fun c hc => hs3267 c (List.mem_cons_of_mem _ hc)) b hb)) : ∀ b ∈ L3272, b ≠ p2490) _ (hs3295 _ List.mem_cons_self))).symm) ((((fun b hb => ((new_ne2 nb3217 (S2944.ow _ (.tail _ (.tail _ (.tail _ (.head _))))).2.1) : ∀ b ∈ L3216, b ≠ p2490) b ((fun c hc => hs3321 c (List.mem_cons_of_mem _ hc)) b hb)) : ∀ b ∈ L3327, b ≠ p2490) _ (hs3350 _ List.mem_cons_self))).symm))))
                      have h3425 := (e3416 _ _ (e3403 _ _ (e3390 _ _ (x3358 _ _ (x3303 _ _ h3223 ((((fun b hb => ((fun b hb => (ne2890 : ∀ b ∈ L2874, b ≠ x2500) b ((fun c hc => hs3253 c (List.mem_cons_of_mem _ hc)) b hb)) : ∀ b ∈ L3258, b ≠ x2500) b ((fun c hc => hs3267 c (List.mem_cons_of_mem _ hc)) b hb)) : ∀ b ∈ L3272, b ≠ x2500) _ (hs3295 _ List.mem_cons_self))).symm) ((((fun b hb => ((new_ne2 nb3217 (S2944.ow _ (.tail _ (.tail _ (.tail _ (.tail _ (.head _)))))).2.1) : ∀ b ∈ L3216, b ≠ x2500) b ((fun c hc => hs3321 c (List.mem_cons_of_mem _ hc)) b hb)) : ∀ b ∈ L3327, b ≠ x2500) _ (hs3350 _ List.mem_cons_self))).symm))))
                      have h3426 := (e3416 _ _ (e3403 _ _ (e3390 _ _ (x3358 _ _ (x3303 _ _ h3224 ((((fun b hb => ((fun b hb => (ne2891 : ∀ b ∈ L2874, b ≠ x2519) b ((fun c hc => hs3253 c (List.mem_cons_of_mem _ hc)) b hb)) : ∀ b ∈ L3258, b ≠ x2519) b ((fun c hc => hs3267 c (List.mem_cons_of_mem _ hc)) b hb)) : ∀ b ∈ L3272, b ≠ x2519) _ (hs3295 _ List.mem_cons_self))).symm) ((((fun b hb => ((new_ne2 nb3217 (S2944.ow _ (.tail _ (.tail _ (.tail _ (.tail _ (.tail _ (.head _))))))).2.1) : ∀ b ∈ L3216, b ≠ x2519) b ((fun c hc => hs3321 c (List.mem_cons_of_mem _ hc)) b hb)) : ∀ b ∈ L3327, b ≠ x2519) _ (hs3350 _ List.mem_cons_self))).symm))))
                      have h3427 := (e3416 _ _ (e3403 _ _ (e3390 _ _ (x3358 _ _ (x3303 _ _ h3220 ((((fun b hb => ((fun b hb => (ne2892 : ∀ b ∈ L2874, b ≠ a2555) b ((fun c hc => hs3253 c (List.mem_cons_of_mem _ hc)) b hb)) : ∀ b ∈ L3258, b ≠ a2555) b ((fun c hc => hs3267 c (List.mem_cons_of_mem _ hc)) b hb)) : ∀ b ∈ L3272, b ≠ a2555) _ (hs3295 _ List.mem_cons_self))).symm) ((((fun b hb => ((new_ne2 nb3217 (S2944.ow _ (.tail _ (.tail _ (.tail _ (.tail _ (.tail _ (.tail _ (.head _)))))))).2.1) : ∀ b ∈ L3216, b ≠ a2555) b ((fun c hc => hs3321 c (List.mem_cons_of_mem _ hc)) b hb)) : ∀ b ∈ L3327, b ≠ a2555) _ (hs3350 _ List.mem_cons_self))).symm))))
                      have h3428 := (e3416 _ _ (e3403 _ _ (e3390 _ _ (x3358 _ _ (x3303 _ _ h3225 ((((fun b hb => ((fun b hb => (ne2893 : ∀ b ∈ L2874, b ≠ p2629) b ((fun c hc => hs3253 c (List.mem_cons_of_mem _ hc)) b hb)) : ∀ b ∈ L3258, b ≠ p2629) b ((fun c hc => hs3267 c (List.mem_cons_of_mem _ hc)) b hb)) : ∀ b ∈ L3272, b ≠ p2629) _ (hs3295 _ List.mem_cons_self))).symm) ((((fun b hb => ((new_ne2 nb3217 (S2944.ow _ (.tail _ (.tail _ (.tail _ (.tail _ (.tail _ (.tail _ (.tail _ (.head _))))))))).2.1) : ∀ b ∈ L3216, b ≠ p2629) b ((fun c hc => hs3321 c (List.mem_cons_of_mem _ hc)) b hb)) : ∀ b ∈ L3327, b ≠ p2629) _ (hs3350 _ List.mem_cons_self))).symm))))
                      have h3429 := (e3416 _ _ (e3403 _ _ (e3390 _ _ (x3358 _ _ (x3303 _ _ h3226 ((((fun b hb => ((fun b hb => (ne2894 : ∀ b ∈ L2874, b ≠ p2742) b ((fun c hc => hs3253 c (List.mem_cons_of_mem _ hc)) b hb)) : ∀ b ∈ L3258, b ≠ p2742) b ((fun c hc => hs3267 c (List.mem_cons_of_mem _ hc)) b hb)) : ∀ b ∈ L3272, b ≠ p2742) _ (hs3295 _ List.mem_cons_self))).symm) ((((fun b hb => ((new_ne2 nb3217 (S2944.ow _ (.tail _ (.tail _ (.tail _ (.tail _ (.tail _ (.tail _ (.tail _ (.tail _ (.head _)))))))))).2.1) : ∀ b ∈ L3216, b ≠ p2742) b ((fun c hc => hs3321 c (List.mem_cons_of_mem _ hc)) b hb)) : ∀ b ∈ L3327, b ≠ p2742) _ (hs3350 _ List.mem_cons_self))).symm))))
                      have h3430 := (e3416 _ _ (e3403 _ _ (e3390 _ _ (x3358 _ _ (x3303 _ _ h3227 ((((fun b hb => ((fun b hb => (ne2895 : ∀ b ∈ L2874, b ≠ l2743) b ((fun c hc => hs3253 c (List.mem_cons_of_mem _ hc)) b hb)) : ∀ b ∈ L3258, b ≠ l2743) b ((fun c hc => hs3267 c (List.mem_cons_of_mem _ hc)) b hb)) : ∀ b ∈ L3272, b ≠ l2743) _ (hs3295 _ List.mem_cons_self))).symm) ((((fun b hb => ((new_ne2 nb3217 (S2944.ow _ (.tail _ (.tail _ (.tail _ (.tail _ (.tail _ (.tail _ (.tail _ (.tail _ (.tail _ (.head _))))))))))).2.1) : ∀ b ∈ L3216, b ≠ l2743) b ((fun c hc => hs3321 c (List.mem_cons_of_mem _ hc)) b hb)) : ∀ b ∈ L3327, b ≠ l2743) _ (hs3350 _ List.mem_cons_self))).symm))))
                      have h3431 := (e3416 _ _ (e3403 _ _ (e3390 _ _ (x3358 _ _ (x3303 _ _ h3228 ((((fun b hb => ((fun b hb => (ne2896 : ∀ b ∈ L2874, b ≠ l2744) b ((fun c hc => hs3253 c (List.mem_cons_of_mem _ hc)) b hb)) : ∀ b ∈ L3258, b ≠ l2744) b ((fun c hc => hs3267 c (List.mem_cons_of_mem _ hc)) b hb)) : ∀ b ∈ L3272, b ≠ l2744) _ (hs3295 _ List.mem_cons_self))).symm) ((((fun b hb => ((new_ne2 nb3217 (S2944.ow _ (.tail _ (.tail _ (.tail _ (.tail _ (.tail _ (.tail _ (.tail _ (.tail _ (.tail _ (.tail _ (.head _)))))))))))).2.1) : ∀ b ∈ L3216, b ≠ l2744) b ((fun c hc => hs3321 c (List.mem_cons_of_mem _ hc)) b hb)) : ∀ b ∈ L3327, b ≠ l2744) _ (hs3350 _ List.mem_cons_self))).symm))))
                      have h3432 := (e3416 _ _ (e3403 _ _ h3396))
                      have w3433 : OwAll G3211 H3415 L2557 (vs2556) ((setL (v2552) (0) (setL ((itD (v2552) (0))) (0) (setL ((itD ((itD (v2552) (0))) (0))) (0) ((-1)))) : (List (List (List Int)))).map (oL (oL oI))) := (OwAll.mono (Same.refl _) (keeps_same e3416) (OwAll.mono (Same.refl _) (keeps_same e3403) (OwAll.mono (Same.refl _) (keeps_same e3390) (OwAll.mono (Same.refl _) (keeps_mut x3358 ((fun b hb z => (fun b hb => ((nl_symm (fun c hc => ((new_nl nb3217 (fun b_ hb_ => (S2944.ow b_ (((fun b hb => (.tail _ (.tail _ (.tail _ (.tail _ (.tail _ (.tail _ (.tail _ (.tail _ (.tail _ (.tail _ (.tail _ (.tail _ (List.mem_append_left _ hb)))))))))))))) : ∀ b ∈ L2557, b ∈ (p2935 :: (p2922 :: (p2909 :: (p2490 :: (x2500 :: (x2519 :: (a2555 :: (p2629 :: (p2742 :: (l2743 :: (l2744 :: (a2764 :: (L2557 ++ (L2874 ++ []))))))))))))))) b_ hb_)).2.1)) : ∀ c ∈ L3216, c ∉ L2557) c ((fun c hc => hs3321 c (List.mem_cons_of_mem _ hc)) c hc))) b hb)) b hb (z ▸ (hs3350 _ List.mem_cons_self))) : ∀ b ∈ L2557, b ≠ b3353)) (OwAll.mono (Same.refl _) (keeps_mut x3303 ((fun b hb z => (fun b hb => ((nl_symm (fun c hc => ((fun c hc => (ne2898 : ∀ c ∈ L2874, c ∉ L2557) c ((fun c hc => hs3253 c (List.mem_cons_of_mem _ hc)) c hc)) : ∀ c ∈ L3258, c ∉ L2557) c ((fun c hc => hs3267 c (List.mem_cons_of_mem _ hc)) c hc))) b hb)) b hb (z ▸ (hs3295 _ List.mem_cons_self))) : ∀ b ∈ L2557, b ≠ b3298)) w3229)))))
                      have w3434 : OwAll G3211 H3415 L2874 (vs2873) ((setL (references_2872) (x2903) (setL ((itD (references_2872) (x2903))) ((((((itD (references_2872) (x2903))) : (List (List (List Int)))).length : Int) - 1)) (setL ((itD ((itD (references_2872) (x2903))) ((((((itD (references_2872) (x2903))) : (List (List (List Int)))).length : Int) - 1)))) ((((((itD (acc3213) ((((((itD (references_2872) (x2903))) : (List (List (List Int)))).length : Int) - 1)))) : (List (List Int))).length : Int) - 1)) (setL ((itD ((itD ((itD (references_2872) (x2903))) ((((((itD (references_2872) (x2903))) : (List (List (List Int)))).length : Int) - 1)))) ((((((itD (acc3213) ((((((itD (references_2872) (x2903))) : (List (List (List Int)))).length : Int) - 1)))) : (List (List Int))).length : Int) - 1)))) (0) ((-1))))) : (List (List (List (List Int))))).map (oL (oL (oL oI)))) := (OwAll.mono (Same.refl _) (keeps_same e3416) (OwAll.mono (Same.refl _) (keeps_same e3403) w3397))
                      exact ⟨_, (setL (references_2872) (x2903) (setL ((itD (references_2872) (x2903))) ((((((itD (references_2872) (x2903))) : (List (List (List Int)))).length : Int) - 1)) (setL ((itD ((itD (references_2872) (x2903))) ((((((itD (references_2872) (x2903))) : (List (List (List Int)))).length : Int) - 1)))) ((((((itD (acc3213) ((((((itD (references_2872) (x2903))) : (List (List (List Int)))).length : Int) - 1)))) : (List (List Int))).length : Int) - 1)) (setL ((itD ((itD ((itD (references_2872) (x2903))) ((((((itD (references_2872) (x2903))) : (List (List (List Int)))).length : Int) - 1)))) ((((((itD (acc3213) ((((((itD (references_2872) (x2903))) : (List (List (List Int)))).length : Int) - 1)))) : (List (List Int))).length : Int) - 1)))) (0) ((-1)))))), (vs2873), L2874, _, _, _, _, rfl, (Same.trans eG2902 eG3212), (S3421.sub (all_cons (.tail _ (.tail _ (.tail _ (.tail _ (List.mem_append_right _ (.tail _ (.tail _ (.head _)))))))) (all_cons (.tail _ (.tail _ (.tail _ (.tail _ (List.mem_append_right _ (.tail _ (.tail _ (.tail _ (.head _))))))))) (all_cons (.tail _ (.tail _ (.tail _ (.tail _ (List.mem_append_right _ (.tail _ (.tail _ (.tail _ (.tail _ (.head _)))))))))) (all_cons (.tail _ (.tail _ (.tail _ (.tail _ (List.mem_append_right _ (.head _)))))) (all_cons (.tail _ (.tail _ (.tail _ (.tail _ (List.mem_append_right _ (.tail _ (.tail _ (.tail _ (.tail _ (.tail _ (.head _))))))))))) (all_cons (.tail _ (.tail _ (.tail _ (.tail _ (List.mem_append_right _ (.tail _ (.tail _ (.tail _ (.tail _ (.tail _ (.tail _ (.head _)))))))))))) (all_cons (.tail _ (.tail _ (.tail _ (.tail _ (List.mem_append_right _ (.tail _ (.tail _ (.tail _ (.tail _ (.tail _ (.tail _ (.tail _ (.head _))))))))))))) (all_cons (.tail _ (.tail _ (.tail _ (.tail _ (List.mem_append_right _ (.tail _ (.tail _ (.tail _ (.tail _ (.tail _ (.tail _ (.tail _ (.tail _ (.head _)))))))))))))) (all_cons (.tail _ (.tail _ (.tail _ (.tail _ (List.mem_append_right _ (.tail _ (.head _))))))) (all_app ((fun b hb => (.tail _ (.tail _ (.tail _ (.tail _ (List.mem_append_right _ (.tail _ (.tail _ (.tail _ (.tail _ (.tail _ (.tail _ (.tail _ (.tail _ (.tail _ (List.mem_append_left _ hb)))))))))))))))) : ∀ b ∈ L2557, b ∈ (p3412 :: (p3399 :: (p3386 :: (D2965 :: (L3216 ++ (a2555 :: (a2764 :: (p2490 :: (x2500 :: (x2519 :: (p2629 :: (p2742 :: (l2743 :: (l2744 :: (L2557 ++ (L2874 ++ []))))))))))))))))) (all_app ((fun b hb => (.tail _ (.tail _ (.tail _ (.tail _ (List.mem_append_right _ (.tail _ (.tail _ (.tail _ (.tail _ (.tail _ (.tail _ (.tail _ (.tail _ (.tail _ (List.mem_append_right _ (List.mem_append_left _ hb))))))))))))))))) : ∀ b ∈ L2874, b ∈ (p3412 :: (p3399 :: (p3386 :: (D2965 :: (L3216 ++ (a2555 :: (a2764 :: (p2490 :: (x2500 :: (x2519 :: (p2629 :: (p2742 :: (l2743 :: (l2744 :: (L2557 ++ (L2874 ++ []))))))))))))))))) all_nil)))))))))))), h3424, h3425, h3426, h3427, h3428, h3429, h3430, h3431, h3432, ne2889, ne2890, ne2891, ne2892, ne2893, ne2894, ne2895, ne2896, ne2897, ne2898, w3433, w3434, hw⟩
                · intro σ H3435 hw
                  obtain ⟨u2871, references_2872, vs2873, L2874, u2875, u2876, u2877, G3458, rfl, eG3459, S3436, h3437, h3438, h3439, h3440, h3441, h3442, h3443, h3444, h3445, ne3446, ne3447, ne3448, ne3449, ne3450, ne3451, ne3452, ne3453, ne3454, ne3455, w3456, w3457, hw⟩ := hw
                  have hw := cW_aftgo (hK2870 _ (cW_forR0 (rng_len _ _).symm hw))
                  have hw : cW (F_law_r3 (v2511) (v2537) (slots_2648) ((PyData.shown ((encL encD) (slots_2648)))) (references_2872)) _ EE := hw
                  unfold F_law_r3 at hw
                  obtain ⟨g3461, hw⟩ := cW_grd hw
                  refine ⟨_, rfl, _, ((encL encD) (slots_2648)), rfl, (rp_mk_list h3441 (RpAll.mono S3436.sG (RpAll.mono eG3459 (RpAll.mono eG2863 (RpAll.mono eG2771 d2733))))), g3461, _, rfl, rfl, _, rfl, ?_⟩
                  refine iteB (fun c3462 => ?_) (fun c3462 => ?_)
                  · have hw := cW_pos c3462 hw
                    refine ⟨_, rfl, rfl, rfl, G3458, _, _, v2511, rfl, S3436.sG, (hide_nil h3438), cW_call hw (fun v3463 hw H3464 a3466 vs3467 L3468 G3469 n3470 nb3471 nd3472 e3465 eG3473 sG3474 hn3475 ga3476 gL3477 h3478 w3479 => ?_) (fun e he => (hE e he).elim)⟩
                    have fr3480 := S3436.free n3470
                    have S3481 : Sep _ _ _ _ H3464 (a3466 :: (L3468 ++ (p2490 :: (x2500 :: (x2519 :: (a2555 :: (p2629 :: (p2742 :: (l2743 :: (l2744 :: (a2764 :: (L2557 ++ (L2874 ++ []))))))))))))) := Sep.steptree S3436 e3465 eG3473 sG3474 hn3475 (a3466 :: L3468) (all_cons ⟨n3470, ga3476, some_ne h3478⟩ (fun b hb => ⟨nb3471 b hb, gL3477 b hb, OwAll.there w3479 b hb⟩))
                    refine ⟨_, rfl, _, _, (rp_mk_list h3478 (OwAll.rpA w3479 (encO_L (encO_L encO_I)) S3481.sG)), (rp_mk_list (S3481.sG _ _ (eG3473 _ _ (eG3459 _ _ (eG2863 _ _ (eG2771 _ _ (eG2736 _ _ (eG2619 _ _ (eG2562 _ _ h2549)))))))) (RpAll.mono S3481.sG (RpAll.mono eG3473 (RpAll.mono eG3459 (RpAll.mono eG2863 (RpAll.mono eG2771 (RpAll.mono eG2736 (RpAll.mono eG2619 (RpAll.mono eG2562 d2550))))))))), ?_⟩
                    have hw := cW_ok hw
                    exact eq_bl (k _) (hK0 _ hw).symm
                  · have hw := cW_negB c3462 hw
                    have hw := cW_ok hw
                    exact eq_bl (k _) (hK0 _ hw).symm
end
def spL (K : PySem.W.Frag) : Sp := fun vs H Q _ => ∃ (a_script : Addr) (script : List Int), vs = [.ref a_script] ∧ SqL K H a_script (script.map V.int) ∧ script.length ≤ 63 ∧ ∀ H', Q (.bl true) H'
def adK (K : PySem.W.Frag) : Ads := ⟨kdA (fun K => He.ma K (He.ga K "PictureHeader") "__init__") "store" K, kdA (fun K => He.ma K (He.ga K "PictureHeader") "__init__") "refs" K, He.ga K "Format", He.ga K "Settings", He.ga K "PictureHeader", He.ga K "CodecError", He.ga K "BadFormat", He.ga K "BadFrame", He.ga K "OutOfRange", He.ga K "BadHeader", He.ga K "KINDS", He.ga K "REF_COUNTS", ikK (fun K => He.ga K "REF_COUNTS") "I" K, ikK (fun K => He.ga K "REF_COUNTS") "P" K, ikK (fun K => He.ga K "REF_COUNTS") "B" K, 0⟩
abbrev dk0 : He5.DefA := ⟨fun K => He.ga K "_law_digits", "_law_digits", "_law_digits", defArgs s__law_digits, defBody s__law_digits, defScope s__law_digits, [], []⟩
abbrev dk1 : He5.DefA := ⟨fun K => He.ma K (He.ga K "Format") "__init__", "__init__", "Format.__init__", defArgs s_Format___init__, defBody s_Format___init__, defScope s_Format___init__, [], [("depth", .int 8), ("chroma", .int 0)]⟩
abbrev dk2 : He5.DefA := ⟨fun K => He.ga K "_require", "_require", "_require", defArgs s__require, defBody s__require, defScope s__require, [], []⟩
abbrev dk3 : He5.DefA := ⟨fun K => He.ma K (He.ga K "Settings") "__init__", "__init__", "Settings.__init__", defArgs s_Settings___init__, defBody s_Settings___init__, defScope s_Settings___init__, [], [("slots", .int 1), ("rows", .int 1), ("deblock", .bl false), ("offset", .bl false), ("layers", .int 1)]⟩
abbrev dk4 : He5.DefA := ⟨fun K => prA "Format" "planes" K, "planes", "Format.planes", defArgs s_Format_planes, defBody s_Format_planes, defScope s_Format_planes, [], []⟩
abbrev dk5 : He5.DefA := ⟨fun K => He.ma K (He.ga K "Format") "blocks", "blocks", "Format.blocks", defArgs s_Format_blocks, defBody s_Format_blocks, defScope s_Format_blocks, [], []⟩
abbrev dk6 : He5.DefA := ⟨fun K => He.ma K (He.ga K "Format") "_plane_size", "_plane_size", "Format._plane_size", defArgs s_Format__plane_size, defBody s_Format__plane_size, defScope s_Format__plane_size, [], []⟩
abbrev dk7 : He5.DefA := ⟨fun K => He.ma K (He.ga K "Format") "coded_size", "coded_size", "Format.coded_size", defArgs s_Format_coded_size, defBody s_Format_coded_size, defScope s_Format_coded_size, [], []⟩
abbrev dk8 : He5.DefA := ⟨fun K => He.ga K "_law_middle", "_law_middle", "_law_middle", defArgs s__law_middle, defBody s__law_middle, defScope s__law_middle, [], []⟩
abbrev dk9 : He5.DefA := ⟨fun K => He.ga K "_check_shape", "_check_shape", "_check_shape", defArgs s__check_shape, defBody s__check_shape, defScope s__check_shape, [], []⟩
abbrev dk10 : He5.DefA := ⟨fun K => He.ma K (He.ga K "Format") "size", "size", "Format.size", defArgs s_Format_size, defBody s_Format_size, defScope s_Format_size, [], []⟩
abbrev dk11 : He5.DefA := ⟨fun K => He.ga K "_sizes", "_sizes", "_sizes", defArgs s__sizes, defBody s__sizes, defScope s__sizes, [], []⟩
abbrev dk12 : He5.DefA := ⟨fun K => prA "Format" "top" K, "top", "Format.top", defArgs s_Format_top, defBody s_Format_top, defScope s_Format_top, [], []⟩
abbrev dk13 : He5.DefA := ⟨fun K => He.ga K "check_frame", "check_frame", "check_frame", defArgs s_check_frame, defBody s_check_frame, defScope s_check_frame, [], []⟩
abbrev dk14 : He5.DefA := ⟨fun K => He.ga K "_pad_plane", "_pad_plane", "_pad_plane", defArgs s__pad_plane, defBody s__pad_plane, defScope s__pad_plane, [], []⟩
abbrev dk15 : He5.DefA := ⟨fun K => He.ga K "_coded_sizes", "_coded_sizes", "_coded_sizes", defArgs s__coded_sizes, defBody s__coded_sizes, defScope s__coded_sizes, [], []⟩
abbrev dk16 : He5.DefA := ⟨fun K => He.ga K "pad_frame", "pad_frame", "pad_frame", defArgs s_pad_frame, defBody s_pad_frame, defScope s_pad_frame, [], []⟩
abbrev dk17 : He5.DefA := ⟨fun K => prA "Format" "middle" K, "middle", "Format.middle", defArgs s_Format_middle, defBody s_Format_middle, defScope s_Format_middle, [], []⟩
abbrev dk18 : He5.DefA := ⟨fun K => He.ga K "flat_frame", "flat_frame", "flat_frame", defArgs s_flat_frame, defBody s_flat_frame, defScope s_flat_frame, [.non], []⟩
abbrev dk19 : He5.DefA := ⟨fun K => He.ga K "middle_planes", "middle_planes", "middle_planes", defArgs s_middle_planes, defBody s_middle_planes, defScope s_middle_planes, [], []⟩
abbrev dk20 : He5.DefA := ⟨fun K => He.ga K "_check_numbers", "_check_numbers", "_check_numbers", defArgs s__check_numbers, defBody s__check_numbers, defScope s__check_numbers, [], []⟩
abbrev dk21 : He5.DefA := ⟨fun K => He.ga K "_check_slots", "_check_slots", "_check_slots", defArgs s__check_slots, defBody s__check_slots, defScope s__check_slots, [], []⟩
abbrev dk22 : He5.DefA := ⟨fun K => He.ma K (He.ga K "PictureHeader") "__init__", "__init__", "PictureHeader.__init__", defArgs s_PictureHeader___init__, defBody s_PictureHeader___init__, defScope s_PictureHeader___init__, [], [("kind", .str "I"), ("level", .int 0), ("store", .adr (kdA (fun K => He.ma K (He.ga K "PictureHeader") "__init__") "store")), ("refs", .adr (kdA (fun K => He.ma K (He.ga K "PictureHeader") "__init__") "refs")), ("weight", .int 8), ("layer", .int 0), ("shown", .bl true), ("edge", .int 0)]⟩
abbrev dk23 : He5.DefA := ⟨fun K => He.ga K "_law_header", "_law_header", "_law_header", defArgs s__law_header, defBody s__law_header, defScope s__law_header, [], []⟩
abbrev dk24 : He5.DefA := ⟨fun K => He.ga K "copy_planes", "copy_planes", "copy_planes", defArgs s_copy_planes, defBody s_copy_planes, defScope s_copy_planes, [], []⟩
abbrev dk25 : He5.DefA := ⟨fun K => He.ga K "_content", "_content", "_content", defArgs s__content, defBody s__content, defScope s__content, [], []⟩
abbrev dk26 : He5.DefA := ⟨fun K => He.ga K "references_of", "references_of", "references_of", defArgs s_references_of, defBody s_references_of, defScope s_references_of, [], []⟩
abbrev dk27 : He5.DefA := ⟨fun K => He.ga K "_law_cell", "_law_cell", "_law_cell", defArgs s__law_cell, defBody s__law_cell, defScope s__law_cell, [], []⟩
abbrev dk28 : He5.DefA := ⟨fun K => He.ga K "_law_planes", "_law_planes", "_law_planes", defArgs s__law_planes, defBody s__law_planes, defScope s__law_planes, [], []⟩
abbrev dk29 : He5.DefA := ⟨fun K => He.ga K "law", "law", "law", defArgs s_law, defBody s_law, defScope s_law, [], []⟩
def fa0 : List FaK := [(fun K => (He.Fa.free "int").ok K), (fun K => (He.Fa.free "range").ok K), (fun K => (He.Fa.int "BLOCK" 8).ok K), (fun K => (He.Fa.free "len").ok K), (fun K => (He.Fa.free "any").ok K), (fun K => (He.Fa.free "zip").ok K), (fun K => (He.Fa.free "max").ok K), (fun K => (He.Fa.free "min").ok K), (fun K => (He.Fa.free "list").ok K), (fun K => (He.Fa.int "GREATEST_NUMBER" 999).ok K), (tupK (fun K => He.ga K "KINDS") [.str "I", .str "P", .str "B"]), (fun K => (He.Fa.glo "KINDS").ok K), (fun K => (He.Fa.int "GREATEST_LEVEL" 31).ok K), (fun K => (He.Fa.int "EVEN_WEIGHT" 8).ok K), (fun K => (He.Fa.free "sorted").ok K), (fun K => (He.Fa.free "set").ok K), (tupK (ikK (fun K => He.ga K "REF_COUNTS") "B") [.int 2]), (tupK (ikK (fun K => He.ga K "REF_COUNTS") "P") [.int 1, .int 2]), (tupK (ikK (fun K => He.ga K "REF_COUNTS") "I") [.int 0]), (fun K => (He.Fa.glo "REF_COUNTS").ok K), (dvB (fun K => He.ga K "REF_COUNTS") [.adr (ikK (fun K => He.ga K "REF_COUNTS") "I"), .adr (ikK (fun K => He.ga K "REF_COUNTS") "P"), .adr (ikK (fun K => He.ga K "REF_COUNTS") "B")]), (fun K => (He.Fa.free "abs").ok K), (fun K => (He.Fa.free "isinstance").ok K), (fun K => (He.Fa.free "repr").ok K), (tupK (kdA (fun K => He.ma K (He.ga K "PictureHeader") "__init__") "store") []), (tupK (kdA (fun K => He.ma K (He.ga K "PictureHeader") "__init__") "refs") []), (fun K => (He.Fa.cls "Format").ok K), (fun K => (He.Fa.noat "Format" "width").ok K), (fun K => (He.Fa.noat "Format" "height").ok K), (fun K => (He.Fa.noat "Format" "depth").ok K)]
def fa1 : List FaK := [(fun K => (He.Fa.noat "Format" "chroma").ok K), (fun K => (He.Fa.cls "Settings").ok K), (fun K => (He.Fa.noat "Settings" "fmt").ok K), (fun K => (He.Fa.noat "Settings" "slots").ok K), (fun K => (He.Fa.noat "Settings" "rows").ok K), (fun K => (He.Fa.noat "Settings" "deblock").ok K), (fun K => (He.Fa.noat "Settings" "offset").ok K), (fun K => (He.Fa.noat "Settings" "layers").ok K), (fun K => (He.Fa.cls "PictureHeader").ok K), (fun K => (He.Fa.noat "PictureHeader" "number").ok K), (fun K => (He.Fa.noat "PictureHeader" "kind").ok K), (fun K => (He.Fa.noat "PictureHeader" "level").ok K), (fun K => (He.Fa.noat "PictureHeader" "store").ok K), (fun K => (He.Fa.noat "PictureHeader" "refs").ok K), (fun K => (He.Fa.noat "PictureHeader" "weight").ok K), (fun K => (He.Fa.noat "PictureHeader" "layer").ok K), (fun K => (He.Fa.noat "PictureHeader" "shown").ok K), (fun K => (He.Fa.noat "PictureHeader" "edge").ok K), (fun K => (He.Fa.exc "BadFormat").ok K), (fun K => (He.Fa.glo "BadFormat").ok K), (fun K => (He.Fa.exc "BadHeader").ok K), (fun K => (He.Fa.glo "BadHeader").ok K), (fun K => (He.Fa.exc "OutOfRange").ok K), (fun K => (He.Fa.glo "OutOfRange").ok K), (fun K => (He.Fa.exc "BadFrame").ok K), (fun K => (He.Fa.glo "BadFrame").ok K), (fun K => (He.Fa.glo "_law_digits").ok K), (fun K => (He.Fa.mkr "Format").ok K), (fun K => (He.Fa.glo "Format").ok K), (fun K => (He.Fa.glo "_require").ok K)]
def fa2 : List FaK := [(fun K => (He.Fa.mkr "Settings").ok K), (fun K => (He.Fa.glo "Settings").ok K), (prpB "Format" "planes"), (fun K => (He.Fa.meth "Format" "blocks").ok K), (fun K => (He.Fa.meth "Format" "_plane_size").ok K), (fun K => (He.Fa.meth "Format" "coded_size").ok K), (fun K => (He.Fa.glo "_law_middle").ok K), (fun K => (He.Fa.glo "_check_shape").ok K), (fun K => (He.Fa.meth "Format" "size").ok K), (fun K => (He.Fa.glo "_sizes").ok K), (prpB "Format" "top"), (fun K => (He.Fa.glo "check_frame").ok K), (fun K => (He.Fa.glo "_pad_plane").ok K), (fun K => (He.Fa.glo "_coded_sizes").ok K), (fun K => (He.Fa.glo "pad_frame").ok K), (prpB "Format" "middle"), (fun K => (He.Fa.glo "flat_frame").ok K), (fun K => (He.Fa.glo "middle_planes").ok K), (fun K => (He.Fa.glo "_check_numbers").ok K), (fun K => (He.Fa.glo "_check_slots").ok K), (fun K => (He.Fa.mkr "PictureHeader").ok K), (fun K => (He.Fa.glo "PictureHeader").ok K), (fun K => (He.Fa.glo "_law_header").ok K), (fun K => (He.Fa.glo "copy_planes").ok K), (fun K => (He.Fa.glo "_content").ok K), (fun K => (He.Fa.glo "references_of").ok K), (fun K => (He.Fa.glo "_law_cell").ok K), (fun K => (He.Fa.glo "_law_planes").ok K), (fun K => (He.Fa.glo "law").ok K)]
def fas : List (List FaK) := [fa0, fa1, fa2]
def fn0 : List He5.DefA := [dk0, dk1, dk2, dk3, dk4, dk5, dk6, dk7, dk8, dk9, dk10, dk11, dk12, dk13, dk14, dk15, dk16, dk17, dk18, dk19, dk20, dk21, dk22, dk23, dk24, dk25, dk26, dk27, dk28, dk29]
def fns : List He5.DefA := fn0
def tbs : List He.Tab := [((fun K => He.ga K "REF_COUNTS"), ["I", "P", "B"])]
def nms0 : List Str := ["_wall", "__name__", "CodecError", "BadFormat", "BadFrame", "OutOfRange", "BadHeader", "BLOCK", "Format", "flat_frame", "check_frame", "pad_frame", "copy_planes", "_sizes", "_coded_sizes", "_check_shape", "_pad_plane", "KINDS", "REF_COUNTS", "EVEN_WEIGHT", "GREATEST_NUMBER", "GREATEST_LEVEL", "Settings", "PictureHeader", "_require", "_check_numbers", "_check_slots", "middle_planes", "references_of", "_content"]
def nms1 : List Str := ["_law_cell", "_law_digits", "_law_planes", "_law_header", "_law_middle"]
def nms : List Str := nms0 ++ nms1
abbrev RowK : PySem.W.OpenRow := PySem.W.OpenLaw.row PySem.Challenge.rw_thaumatrope_k59_references_of_pictures
abbrev hkK : PySem.W.Hook := hookK 6 fas fns tbs
def obK (s : PySem.W.SharedT) : AlK := obsKG 6 fas fns tbs (HandSHeadRun.getT s)
theorem obK_eq (s : PySem.W.SharedT) : obK s = hkK.obs s.abs := obsKG_eq (HandSHeadRun.getT_eq s)
theorem runK0 (w : World) : HandSHeadRun.RunEq RowK (PySem.W.view RowK.prog [39]) hkK obK 20000 nms (w.withFollow "special-get-raises" false) := by
  intro os
  kernel_rfl
theorem runK1 (w : World) : HandSHeadRun.RunEq RowK (PySem.W.view RowK.prog [39]) hkK obK 20000 nms (w.withFollow "special-get-raises" true) := by
  intro os
  kernel_rfl
theorem runK (w : World) : HandSHeadRun.RunEq RowK (PySem.W.view RowK.prog [39]) hkK obK 20000 nms w := PySem.W.byRow2 "special-get-raises" runK0 runK1 w
section
variable {P : Program} {w : World} {K : PySem.W.Frag} {h : Heap} {mg : Str → Option Value} (X : K.In h) (G : h.Ns mainGlobals mg) (c : SaysK fas fns tbs w K)
include X G c
theorem T_ : Txt w K mg (adK K) := ⟨He.free_ok X G (c.fact 0 0 (l := fa0) (f := (fun K => (He.Fa.free "int").ok K)) rfl rfl), He.free_ok X G (c.fact 0 1 (l := fa0) (f := (fun K => (He.Fa.free "range").ok K)) rfl rfl), (Exists.elim (He.int_ok X G (c.fact 0 2 (l := fa0) (f := (fun K => (He.Fa.int "BLOCK" 8).ok K)) rfl rfl)) fun t e => ⟨_, e, ⟨t, rfl⟩⟩), He.free_ok X G (c.fact 0 3 (l := fa0) (f := (fun K => (He.Fa.free "len").ok K)) rfl rfl), He.free_ok X G (c.fact 0 4 (l := fa0) (f := (fun K => (He.Fa.free "any").ok K)) rfl rfl), He.free_ok X G (c.fact 0 5 (l := fa0) (f := (fun K => (He.Fa.free "zip").ok K)) rfl rfl), He.free_ok X G (c.fact 0 6 (l := fa0) (f := (fun K => (He.Fa.free "max").ok K)) rfl rfl), He.free_ok X G (c.fact 0 7 (l := fa0) (f := (fun K => (He.Fa.free "min").ok K)) rfl rfl), He.free_ok X G (c.fact 0 8 (l := fa0) (f := (fun K => (He.Fa.free "list").ok K)) rfl rfl), (Exists.elim (He.int_ok X G (c.fact 0 9 (l := fa0) (f := (fun K => (He.Fa.int "GREATEST_NUMBER" 999).ok K)) rfl rfl)) fun t e => ⟨_, e, ⟨t, rfl⟩⟩), ⟨_, (He.glo_ok X G (c.fact 0 11 (l := fa0) (f := (fun K => (He.Fa.glo "KINDS").ok K)) rfl rfl)), rfl⟩, fun H => tupK_ok (c.fact 0 10 (l := fa0) (f := (tupK (fun K => He.ga K "KINDS") [.str "I", .str "P", .str "B"])) rfl rfl) H, (Exists.elim (He.int_ok X G (c.fact 0 12 (l := fa0) (f := (fun K => (He.Fa.int "GREATEST_LEVEL" 31).ok K)) rfl rfl)) fun t e => ⟨_, e, ⟨t, rfl⟩⟩), (Exists.elim (He.int_ok X G (c.fact 0 13 (l := fa0) (f := (fun K => (He.Fa.int "EVEN_WEIGHT" 8).ok K)) rfl rfl)) fun t e => ⟨_, e, ⟨t, rfl⟩⟩), He.free_ok X G (c.fact 0 14 (l := fa0) (f := (fun K => (He.Fa.free "sorted").ok K)) rfl rfl), He.free_ok X G (c.fact 0 15 (l := fa0) (f := (fun K => (He.Fa.free "set").ok K)) rfl rfl), ⟨_, (He.glo_ok X G (c.fact 0 19 (l := fa0) (f := (fun K => (He.Fa.glo "REF_COUNTS").ok K)) rfl rfl)), rfl⟩, kda_of (a := (fun K => He.ga K "REF_COUNTS")) (kvs := [("I", (ikK (fun K => He.ga K "REF_COUNTS") "I")), ("P", (ikK (fun K => He.ga K "REF_COUNTS") "P")), ("B", (ikK (fun K => He.ga K "REF_COUNTS") "B"))]) (c.tab 0 rfl) (c.fact 0 20 (l := fa0) (f := (dvB (fun K => He.ga K "REF_COUNTS") [.adr (ikK (fun K => He.ga K "REF_COUNTS") "I"), .adr (ikK (fun K => He.ga K "REF_COUNTS") "P"), .adr (ikK (fun K => He.ga K "REF_COUNTS") "B")])) rfl rfl), fun z h => F2.hasK (P := fun (a : Addr) (xs : List Int) => ∀ H, SqT K H a (xs.map V.int)) (.cons ⟨rfl, fun H => by exact tupK_ok (c.fact 0 18 (l := fa0) (f := (tupK (ikK (fun K => He.ga K "REF_COUNTS") "I") [.int 0])) rfl rfl) H⟩ (.cons ⟨rfl, fun H => by exact tupK_ok (c.fact 0 17 (l := fa0) (f := (tupK (ikK (fun K => He.ga K "REF_COUNTS") "P") [.int 1, .int 2])) rfl rfl) H⟩ (.cons ⟨rfl, fun H => by exact tupK_ok (c.fact 0 16 (l := fa0) (f := (tupK (ikK (fun K => He.ga K "REF_COUNTS") "B") [.int 2])) rfl rfl) H⟩ .nil))) h, fun z h => F2.look (P := fun (a : Addr) (xs : List Int) => ∀ H, SqT K H a (xs.map V.int)) (.cons ⟨rfl, fun H => by exact tupK_ok (c.fact 0 18 (l := fa0) (f := (tupK (ikK (fun K => He.ga K "REF_COUNTS") "I") [.int 0])) rfl rfl) H⟩ (.cons ⟨rfl, fun H => by exact tupK_ok (c.fact 0 17 (l := fa0) (f := (tupK (ikK (fun K => He.ga K "REF_COUNTS") "P") [.int 1, .int 2])) rfl rfl) H⟩ (.cons ⟨rfl, fun H => by exact tupK_ok (c.fact 0 16 (l := fa0) (f := (tupK (ikK (fun K => He.ga K "REF_COUNTS") "B") [.int 2])) rfl rfl) H⟩ .nil))) h, He.free_ok X G (c.fact 0 21 (l := fa0) (f := (fun K => (He.Fa.free "abs").ok K)) rfl rfl), He.free_ok X G (c.fact 0 22 (l := fa0) (f := (fun K => (He.Fa.free "isinstance").ok K)) rfl rfl), He.free_ok X G (c.fact 0 23 (l := fa0) (f := (fun K => (He.Fa.free "repr").ok K)) rfl rfl), fun H => tupK_ok (a := kdA (fun K => He.ma K (He.ga K "PictureHeader") "__init__") "store") (c.fact 0 24 (l := fa0) (f := (tupK (kdA (fun K => He.ma K (He.ga K "PictureHeader") "__init__") "store") [])) rfl rfl) H, fun H => tupK_ok (a := kdA (fun K => He.ma K (He.ga K "PictureHeader") "__init__") "refs") (c.fact 0 25 (l := fa0) (f := (tupK (kdA (fun K => He.ma K (He.ga K "PictureHeader") "__init__") "refs") [])) rfl rfl) H, He.cls_ok (c.fact 0 26 (l := fa0) (f := (fun K => (He.Fa.cls "Format").ok K)) rfl rfl), He.noat_ok (c.fact 0 27 (l := fa0) (f := (fun K => (He.Fa.noat "Format" "width").ok K)) rfl rfl), He.noat_ok (c.fact 0 28 (l := fa0) (f := (fun K => (He.Fa.noat "Format" "height").ok K)) rfl rfl), He.noat_ok (c.fact 0 29 (l := fa0) (f := (fun K => (He.Fa.noat "Format" "depth").ok K)) rfl rfl), He.noat_ok (c.fact 1 0 (l := fa1) (f := (fun K => (He.Fa.noat "Format" "chroma").ok K)) rfl rfl), He.cls_ok (c.fact 1 1 (l := fa1) (f := (fun K => (He.Fa.cls "Settings").ok K)) rfl rfl), He.noat_ok (c.fact 1 2 (l := fa1) (f := (fun K => (He.Fa.noat "Settings" "fmt").ok K)) rfl rfl), He.noat_ok (c.fact 1 3 (l := fa1) (f := (fun K => (He.Fa.noat "Settings" "slots").ok K)) rfl rfl), He.noat_ok (c.fact 1 4 (l := fa1) (f := (fun K => (He.Fa.noat "Settings" "rows").ok K)) rfl rfl), He.noat_ok (c.fact 1 5 (l := fa1) (f := (fun K => (He.Fa.noat "Settings" "deblock").ok K)) rfl rfl), He.noat_ok (c.fact 1 6 (l := fa1) (f := (fun K => (He.Fa.noat "Settings" "offset").ok K)) rfl rfl), He.noat_ok (c.fact 1 7 (l := fa1) (f := (fun K => (He.Fa.noat "Settings" "layers").ok K)) rfl rfl), He.cls_ok (c.fact 1 8 (l := fa1) (f := (fun K => (He.Fa.cls "PictureHeader").ok K)) rfl rfl), He.noat_ok (c.fact 1 9 (l := fa1) (f := (fun K => (He.Fa.noat "PictureHeader" "number").ok K)) rfl rfl), He.noat_ok (c.fact 1 10 (l := fa1) (f := (fun K => (He.Fa.noat "PictureHeader" "kind").ok K)) rfl rfl), He.noat_ok (c.fact 1 11 (l := fa1) (f := (fun K => (He.Fa.noat "PictureHeader" "level").ok K)) rfl rfl), He.noat_ok (c.fact 1 12 (l := fa1) (f := (fun K => (He.Fa.noat "PictureHeader" "store").ok K)) rfl rfl), He.noat_ok (c.fact 1 13 (l := fa1) (f := (fun K => (He.Fa.noat "PictureHeader" "refs").ok K)) rfl rfl), He.noat_ok (c.fact 1 14 (l := fa1) (f := (fun K => (He.Fa.noat "PictureHeader" "weight").ok K)) rfl rfl), He.noat_ok (c.fact 1 15 (l := fa1) (f := (fun K => (He.Fa.noat "PictureHeader" "layer").ok K)) rfl rfl), He.noat_ok (c.fact 1 16 (l := fa1) (f := (fun K => (He.Fa.noat "PictureHeader" "shown").ok K)) rfl rfl), He.noat_ok (c.fact 1 17 (l := fa1) (f := (fun K => (He.Fa.noat "PictureHeader" "edge").ok K)) rfl rfl), (He.glo_ok X G (c.fact 1 19 (l := fa1) (f := (fun K => (He.Fa.glo "BadFormat").ok K)) rfl rfl)), (He.exc_ok (c.fact 1 18 (l := fa1) (f := (fun K => (He.Fa.exc "BadFormat").ok K)) rfl rfl)).1, (He.exc_ok (c.fact 1 18 (l := fa1) (f := (fun K => (He.Fa.exc "BadFormat").ok K)) rfl rfl)).2.1, (He.exc_ok (c.fact 1 18 (l := fa1) (f := (fun K => (He.Fa.exc "BadFormat").ok K)) rfl rfl)).2.2.1, (He.exc_ok (c.fact 1 18 (l := fa1) (f := (fun K => (He.Fa.exc "BadFormat").ok K)) rfl rfl)).2.2.2, (He.glo_ok X G (c.fact 1 21 (l := fa1) (f := (fun K => (He.Fa.glo "BadHeader").ok K)) rfl rfl)), (He.exc_ok (c.fact 1 20 (l := fa1) (f := (fun K => (He.Fa.exc "BadHeader").ok K)) rfl rfl)).1, (He.exc_ok (c.fact 1 20 (l := fa1) (f := (fun K => (He.Fa.exc "BadHeader").ok K)) rfl rfl)).2.1, (He.exc_ok (c.fact 1 20 (l := fa1) (f := (fun K => (He.Fa.exc "BadHeader").ok K)) rfl rfl)).2.2.1, (He.exc_ok (c.fact 1 20 (l := fa1) (f := (fun K => (He.Fa.exc "BadHeader").ok K)) rfl rfl)).2.2.2, (He.glo_ok X G (c.fact 1 23 (l := fa1) (f := (fun K => (He.Fa.glo "OutOfRange").ok K)) rfl rfl)), (He.exc_ok (c.fact 1 22 (l := fa1) (f := (fun K => (He.Fa.exc "OutOfRange").ok K)) rfl rfl)).1, (He.exc_ok (c.fact 1 22 (l := fa1) (f := (fun K => (He.Fa.exc "OutOfRange").ok K)) rfl rfl)).2.1, (He.exc_ok (c.fact 1 22 (l := fa1) (f := (fun K => (He.Fa.exc "OutOfRange").ok K)) rfl rfl)).2.2.1, (He.exc_ok (c.fact 1 22 (l := fa1) (f := (fun K => (He.Fa.exc "OutOfRange").ok K)) rfl rfl)).2.2.2, (He.glo_ok X G (c.fact 1 25 (l := fa1) (f := (fun K => (He.Fa.glo "BadFrame").ok K)) rfl rfl)), (He.exc_ok (c.fact 1 24 (l := fa1) (f := (fun K => (He.Fa.exc "BadFrame").ok K)) rfl rfl)).1, (He.exc_ok (c.fact 1 24 (l := fa1) (f := (fun K => (He.Fa.exc "BadFrame").ok K)) rfl rfl)).2.1, (He.exc_ok (c.fact 1 24 (l := fa1) (f := (fun K => (He.Fa.exc "BadFrame").ok K)) rfl rfl)).2.2.1, (He.exc_ok (c.fact 1 24 (l := fa1) (f := (fun K => (He.Fa.exc "BadFrame").ok K)) rfl rfl)).2.2.2⟩
theorem D_0 : DefX K mg "_law_digits" s__law_digits ["cell", "base", "most"] pats__law_digits := by
  obtain ⟨fd0, F0⟩ : ∃ fd, FunD K "_law_digits" "_law_digits" (defArgs s__law_digits) (defBody s__law_digits) (defScope s__law_digits) [] [] (He.ga K "_law_digits") fd := c.def_ 0 (d := dk0) rfl
  obtain ⟨kV, dc, pm, an, cd, ct, rfl⟩ := fnD_ex F0
  exact ⟨_, _, _, _, F0, (He.glo_ok X G (c.fact 1 26 (l := fa1) (f := (fun K => (He.Fa.glo "_law_digits").ok K)) rfl rfl)), (all_consQ (Bnd.all fun us ws vs zs l1 l2 r rz => by
      obtain ⟨u0, u1, u2, rfl⟩ := len3 (r.length.symm.trans l1)
      obtain rfl := len0 (rz.length.symm.trans l2)
      cases r with | cons r0 r =>
        cases r with | cons r1 r =>
          cases r with | cons r2 r =>
            cases r
            cases rz
            exact ⟨[u0, u1, u2], rfl, (.cons r0 (.cons r1 (.cons r2 .nil)))⟩) all_nilQ)⟩
theorem D_1 : InitX K mg (He.ga K "Format") "Format" "Format.__init__" s_Format___init__ ["self", "width", "height", "depth", "chroma"] pats_Format___init__ := by
  obtain ⟨fd0, F1⟩ : ∃ fd, FunD K "__init__" "Format.__init__" (defArgs s_Format___init__) (defBody s_Format___init__) (defScope s_Format___init__) [] [("depth", V.int 8), ("chroma", V.int 0)] (He.ma K (He.ga K "Format") "__init__") fd := c.def_ 1 (d := dk1) rfl
  obtain ⟨kV, dc, pm, an, cd, ct, rfl⟩ := fnD_ex F1
  exact ⟨_, _, _, _, F1, He.mkr_ok (c.fact 1 27 (l := fa1) (f := (fun K => (He.Fa.mkr "Format").ok K)) rfl rfl), (He.glo_ok X G (c.fact 1 28 (l := fa1) (f := (fun K => (He.Fa.glo "Format").ok K)) rfl rfl)), (all_consQ (Bnd.all fun us ws vs zs l1 l2 r rz => by
      obtain ⟨u0, u1, u2, rfl⟩ := len3 (r.length.symm.trans l1)
      obtain ⟨w0, w1, rfl⟩ := len2 (rz.length.symm.trans l2)
      cases r with | cons r0 r =>
        cases r with | cons r1 r =>
          cases r with | cons r2 r =>
            cases r
            cases rz with | cons q0 rz =>
              cases rz with | cons q1 rz =>
                cases rz
                exact ⟨[u0, u1, u2, w0, w1], rfl, (.cons r0 (.cons r1 (.cons r2 (.cons q0 (.cons q1 .nil)))))⟩) all_nilQ)⟩
theorem D_2 : DefX K mg "_require" s__require ["holds", "text"] pats__require := by
  obtain ⟨fd0, F2⟩ : ∃ fd, FunD K "_require" "_require" (defArgs s__require) (defBody s__require) (defScope s__require) [] [] (He.ga K "_require") fd := c.def_ 2 (d := dk2) rfl
  obtain ⟨kV, dc, pm, an, cd, ct, rfl⟩ := fnD_ex F2
  exact ⟨_, _, _, _, F2, (He.glo_ok X G (c.fact 1 29 (l := fa1) (f := (fun K => (He.Fa.glo "_require").ok K)) rfl rfl)), (all_consQ (Bnd.all fun us ws vs zs l1 l2 r rz => by
      obtain ⟨u0, u1, rfl⟩ := len2 (r.length.symm.trans l1)
      obtain rfl := len0 (rz.length.symm.trans l2)
      cases r with | cons r0 r =>
        cases r with | cons r1 r =>
          cases r
          cases rz
          exact ⟨[u0, u1], rfl, (.cons r0 (.cons r1 .nil))⟩) all_nilQ)⟩
theorem D_3 : InitX K mg (He.ga K "Settings") "Settings" "Settings.__init__" s_Settings___init__ ["self", "fmt", "slots", "rows", "deblock", "offset", "layers"] pats_Settings___init__ := by
  obtain ⟨fd0, F3⟩ : ∃ fd, FunD K "__init__" "Settings.__init__" (defArgs s_Settings___init__) (defBody s_Settings___init__) (defScope s_Settings___init__) [] [("slots", V.int 1), ("rows", V.int 1), ("deblock", V.bl false), ("offset", V.bl false), ("layers", V.int 1)] (He.ma K (He.ga K "Settings") "__init__") fd := c.def_ 3 (d := dk3) rfl
  obtain ⟨kV, dc, pm, an, cd, ct, rfl⟩ := fnD_ex F3
  exact ⟨_, _, _, _, F3, He.mkr_ok (c.fact 2 0 (l := fa2) (f := (fun K => (He.Fa.mkr "Settings").ok K)) rfl rfl), (He.glo_ok X G (c.fact 2 1 (l := fa2) (f := (fun K => (He.Fa.glo "Settings").ok K)) rfl rfl)), (all_consQ (Exists.elim (FunD.kbinds0 F3 2 ["slots"] [("rows", V.int 1), ("deblock", V.bl false), ("offset", V.bl false), ("layers", V.int 1)] (fun {α} => gk_Settings___init___0 (α := α)) (by simp) (by simp) (fun r s q => gkrel_Settings___init___0 r s q) (fun D doc pm an cdv ct us mv ws h1 h2 h3 => by
        obtain ⟨u0, u1, rfl⟩ := len2 h1
        obtain ⟨m0, m1, m2, m3, rfl⟩ := len4 h2
        obtain ⟨w0, rfl⟩ := len1 h3
        exact ⟨_, _, _, _, _, _, rfl, rfl, ⟨_, _, _, _, _, _, rfl, rfl, ⟨_, _, _, _, _, _, rfl, rfl, ⟨_, _, _, _, _, _, rfl, rfl, rfl⟩⟩⟩⟩)) fun _ hb => Bnd.of_kbn hb) all_nilQ)⟩
theorem D_4 : PropX K (He.ga K "Format") "Format.planes" "planes" s_Format_planes ["self"] pats_Format_planes := by
  obtain ⟨fd0, F4⟩ : ∃ fd, FunD K "planes" "Format.planes" (defArgs s_Format_planes) (defBody s_Format_planes) (defScope s_Format_planes) [] [] (prA "Format" "planes" K) fd := c.def_ 4 (d := dk4) rfl
  obtain ⟨kV, dc, pm, an, cd, ct, rfl⟩ := fnD_ex F4
  obtain ⟨e1, e2, e3, rs, e4⟩ := prpB_ok (c.fact 2 2 (l := fa2) (f := (prpB "Format" "planes")) rfl rfl)
  exact ⟨_, _, _, _, _, F4, ⟨e1, e2, e3, _, e4⟩, FunD.bindsN F4 (fun _ _ _ _ _ _ us h => by obtain ⟨u0, rfl⟩ := len1 h; rfl)⟩
theorem D_5 : MethX K (He.ga K "Format") "Format.blocks" "blocks" s_Format_blocks ["self"] pats_Format_blocks := by
  obtain ⟨fd0, F5⟩ : ∃ fd, FunD K "blocks" "Format.blocks" (defArgs s_Format_blocks) (defBody s_Format_blocks) (defScope s_Format_blocks) [] [] (He.ma K (He.ga K "Format") "blocks") fd := c.def_ 5 (d := dk5) rfl
  obtain ⟨kV, dc, pm, an, cd, ct, rfl⟩ := fnD_ex F5
  exact ⟨_, _, _, _, F5, He.meth_ok (c.fact 2 3 (l := fa2) (f := (fun K => (He.Fa.meth "Format" "blocks").ok K)) rfl rfl), (all_consQ (Bnd.all fun us ws vs zs l1 l2 r rz => by
      obtain ⟨u0, rfl⟩ := len1 (r.length.symm.trans l1)
      obtain rfl := len0 (rz.length.symm.trans l2)
      cases r with | cons r0 r =>
        cases r
        cases rz
        exact ⟨[u0], rfl, (.cons r0 .nil)⟩) all_nilQ)⟩
theorem D_6 : MethX K (He.ga K "Format") "Format._plane_size" "_plane_size" s_Format__plane_size ["self", "plane", "width", "height"] pats_Format__plane_size := by
  obtain ⟨fd0, F6⟩ : ∃ fd, FunD K "_plane_size" "Format._plane_size" (defArgs s_Format__plane_size) (defBody s_Format__plane_size) (defScope s_Format__plane_size) [] [] (He.ma K (He.ga K "Format") "_plane_size") fd := c.def_ 6 (d := dk6) rfl
  obtain ⟨kV, dc, pm, an, cd, ct, rfl⟩ := fnD_ex F6
  exact ⟨_, _, _, _, F6, He.meth_ok (c.fact 2 4 (l := fa2) (f := (fun K => (He.Fa.meth "Format" "_plane_size").ok K)) rfl rfl), (all_consQ (Bnd.all fun us ws vs zs l1 l2 r rz => by
      obtain ⟨u0, u1, u2, u3, rfl⟩ := len4 (r.length.symm.trans l1)
      obtain rfl := len0 (rz.length.symm.trans l2)
      cases r with | cons r0 r =>
        cases r with | cons r1 r =>
          cases r with | cons r2 r =>
            cases r with | cons r3 r =>
              cases r
              cases rz
              exact ⟨[u0, u1, u2, u3], rfl, (.cons r0 (.cons r1 (.cons r2 (.cons r3 .nil))))⟩) all_nilQ)⟩
theorem D_7 : MethX K (He.ga K "Format") "Format.coded_size" "coded_size" s_Format_coded_size ["self", "plane"] pats_Format_coded_size := by
  obtain ⟨fd0, F7⟩ : ∃ fd, FunD K "coded_size" "Format.coded_size" (defArgs s_Format_coded_size) (defBody s_Format_coded_size) (defScope s_Format_coded_size) [] [] (He.ma K (He.ga K "Format") "coded_size") fd := c.def_ 7 (d := dk7) rfl
  obtain ⟨kV, dc, pm, an, cd, ct, rfl⟩ := fnD_ex F7
  exact ⟨_, _, _, _, F7, He.meth_ok (c.fact 2 5 (l := fa2) (f := (fun K => (He.Fa.meth "Format" "coded_size").ok K)) rfl rfl), (all_consQ (Bnd.all fun us ws vs zs l1 l2 r rz => by
      obtain ⟨u0, u1, rfl⟩ := len2 (r.length.symm.trans l1)
      obtain rfl := len0 (rz.length.symm.trans l2)
      cases r with | cons r0 r =>
        cases r with | cons r1 r =>
          cases r
          cases rz
          exact ⟨[u0, u1], rfl, (.cons r0 (.cons r1 .nil))⟩) all_nilQ)⟩
theorem D_8 : DefX K mg "_law_middle" s__law_middle ["fmt"] pats__law_middle := by
  obtain ⟨fd0, F8⟩ : ∃ fd, FunD K "_law_middle" "_law_middle" (defArgs s__law_middle) (defBody s__law_middle) (defScope s__law_middle) [] [] (He.ga K "_law_middle") fd := c.def_ 8 (d := dk8) rfl
  obtain ⟨kV, dc, pm, an, cd, ct, rfl⟩ := fnD_ex F8
  exact ⟨_, _, _, _, F8, (He.glo_ok X G (c.fact 2 6 (l := fa2) (f := (fun K => (He.Fa.glo "_law_middle").ok K)) rfl rfl)), (all_consQ (Bnd.all fun us ws vs zs l1 l2 r rz => by
      obtain ⟨u0, rfl⟩ := len1 (r.length.symm.trans l1)
      obtain rfl := len0 (rz.length.symm.trans l2)
      cases r with | cons r0 r =>
        cases r
        cases rz
        exact ⟨[u0], rfl, (.cons r0 .nil)⟩) all_nilQ)⟩
theorem D_9 : DefX K mg "_check_shape" s__check_shape ["planes", "sizes"] pats__check_shape := by
  obtain ⟨fd0, F9⟩ : ∃ fd, FunD K "_check_shape" "_check_shape" (defArgs s__check_shape) (defBody s__check_shape) (defScope s__check_shape) [] [] (He.ga K "_check_shape") fd := c.def_ 9 (d := dk9) rfl
  obtain ⟨kV, dc, pm, an, cd, ct, rfl⟩ := fnD_ex F9
  exact ⟨_, _, _, _, F9, (He.glo_ok X G (c.fact 2 7 (l := fa2) (f := (fun K => (He.Fa.glo "_check_shape").ok K)) rfl rfl)), (all_consQ (Bnd.all fun us ws vs zs l1 l2 r rz => by
      obtain ⟨u0, u1, rfl⟩ := len2 (r.length.symm.trans l1)
      obtain rfl := len0 (rz.length.symm.trans l2)
      cases r with | cons r0 r =>
        cases r with | cons r1 r =>
          cases r
          cases rz
          exact ⟨[u0, u1], rfl, (.cons r0 (.cons r1 .nil))⟩) all_nilQ)⟩
theorem D_10 : MethX K (He.ga K "Format") "Format.size" "size" s_Format_size ["self", "plane"] pats_Format_size := by
  obtain ⟨fd0, F10⟩ : ∃ fd, FunD K "size" "Format.size" (defArgs s_Format_size) (defBody s_Format_size) (defScope s_Format_size) [] [] (He.ma K (He.ga K "Format") "size") fd := c.def_ 10 (d := dk10) rfl
  obtain ⟨kV, dc, pm, an, cd, ct, rfl⟩ := fnD_ex F10
  exact ⟨_, _, _, _, F10, He.meth_ok (c.fact 2 8 (l := fa2) (f := (fun K => (He.Fa.meth "Format" "size").ok K)) rfl rfl), (all_consQ (Bnd.all fun us ws vs zs l1 l2 r rz => by
      obtain ⟨u0, u1, rfl⟩ := len2 (r.length.symm.trans l1)
      obtain rfl := len0 (rz.length.symm.trans l2)
      cases r with | cons r0 r =>
        cases r with | cons r1 r =>
          cases r
          cases rz
          exact ⟨[u0, u1], rfl, (.cons r0 (.cons r1 .nil))⟩) all_nilQ)⟩
theorem D_11 : DefX K mg "_sizes" s__sizes ["fmt"] pats__sizes := by
  obtain ⟨fd0, F11⟩ : ∃ fd, FunD K "_sizes" "_sizes" (defArgs s__sizes) (defBody s__sizes) (defScope s__sizes) [] [] (He.ga K "_sizes") fd := c.def_ 11 (d := dk11) rfl
  obtain ⟨kV, dc, pm, an, cd, ct, rfl⟩ := fnD_ex F11
  exact ⟨_, _, _, _, F11, (He.glo_ok X G (c.fact 2 9 (l := fa2) (f := (fun K => (He.Fa.glo "_sizes").ok K)) rfl rfl)), (all_consQ (Bnd.all fun us ws vs zs l1 l2 r rz => by
      obtain ⟨u0, rfl⟩ := len1 (r.length.symm.trans l1)
      obtain rfl := len0 (rz.length.symm.trans l2)
      cases r with | cons r0 r =>
        cases r
        cases rz
        exact ⟨[u0], rfl, (.cons r0 .nil)⟩) all_nilQ)⟩
theorem D_12 : PropX K (He.ga K "Format") "Format.top" "top" s_Format_top ["self"] pats_Format_top := by
  obtain ⟨fd0, F12⟩ : ∃ fd, FunD K "top" "Format.top" (defArgs s_Format_top) (defBody s_Format_top) (defScope s_Format_top) [] [] (prA "Format" "top" K) fd := c.def_ 12 (d := dk12) rfl
  obtain ⟨kV, dc, pm, an, cd, ct, rfl⟩ := fnD_ex F12
  obtain ⟨e1, e2, e3, rs, e4⟩ := prpB_ok (c.fact 2 10 (l := fa2) (f := (prpB "Format" "top")) rfl rfl)
  exact ⟨_, _, _, _, _, F12, ⟨e1, e2, e3, _, e4⟩, FunD.bindsN F12 (fun _ _ _ _ _ _ us h => by obtain ⟨u0, rfl⟩ := len1 h; rfl)⟩
theorem D_13 : DefX K mg "check_frame" s_check_frame ["fmt", "frame"] pats_check_frame := by
  obtain ⟨fd0, F13⟩ : ∃ fd, FunD K "check_frame" "check_frame" (defArgs s_check_frame) (defBody s_check_frame) (defScope s_check_frame) [] [] (He.ga K "check_frame") fd := c.def_ 13 (d := dk13) rfl
  obtain ⟨kV, dc, pm, an, cd, ct, rfl⟩ := fnD_ex F13
  exact ⟨_, _, _, _, F13, (He.glo_ok X G (c.fact 2 11 (l := fa2) (f := (fun K => (He.Fa.glo "check_frame").ok K)) rfl rfl)), (all_consQ (Bnd.all fun us ws vs zs l1 l2 r rz => by
      obtain ⟨u0, u1, rfl⟩ := len2 (r.length.symm.trans l1)
      obtain rfl := len0 (rz.length.symm.trans l2)
      cases r with | cons r0 r =>
        cases r with | cons r1 r =>
          cases r
          cases rz
          exact ⟨[u0, u1], rfl, (.cons r0 (.cons r1 .nil))⟩) all_nilQ)⟩
theorem D_14 : DefX K mg "_pad_plane" s__pad_plane ["plane", "size"] pats__pad_plane := by
  obtain ⟨fd0, F14⟩ : ∃ fd, FunD K "_pad_plane" "_pad_plane" (defArgs s__pad_plane) (defBody s__pad_plane) (defScope s__pad_plane) [] [] (He.ga K "_pad_plane") fd := c.def_ 14 (d := dk14) rfl
  obtain ⟨kV, dc, pm, an, cd, ct, rfl⟩ := fnD_ex F14
  exact ⟨_, _, _, _, F14, (He.glo_ok X G (c.fact 2 12 (l := fa2) (f := (fun K => (He.Fa.glo "_pad_plane").ok K)) rfl rfl)), (all_consQ (Bnd.all fun us ws vs zs l1 l2 r rz => by
      obtain ⟨u0, u1, rfl⟩ := len2 (r.length.symm.trans l1)
      obtain rfl := len0 (rz.length.symm.trans l2)
      cases r with | cons r0 r =>
        cases r with | cons r1 r =>
          cases r
          cases rz
          exact ⟨[u0, u1], rfl, (.cons r0 (.cons r1 .nil))⟩) all_nilQ)⟩
theorem D_15 : DefX K mg "_coded_sizes" s__coded_sizes ["fmt"] pats__coded_sizes := by
  obtain ⟨fd0, F15⟩ : ∃ fd, FunD K "_coded_sizes" "_coded_sizes" (defArgs s__coded_sizes) (defBody s__coded_sizes) (defScope s__coded_sizes) [] [] (He.ga K "_coded_sizes") fd := c.def_ 15 (d := dk15) rfl
  obtain ⟨kV, dc, pm, an, cd, ct, rfl⟩ := fnD_ex F15
  exact ⟨_, _, _, _, F15, (He.glo_ok X G (c.fact 2 13 (l := fa2) (f := (fun K => (He.Fa.glo "_coded_sizes").ok K)) rfl rfl)), (all_consQ (Bnd.all fun us ws vs zs l1 l2 r rz => by
      obtain ⟨u0, rfl⟩ := len1 (r.length.symm.trans l1)
      obtain rfl := len0 (rz.length.symm.trans l2)
      cases r with | cons r0 r =>
        cases r
        cases rz
        exact ⟨[u0], rfl, (.cons r0 .nil)⟩) all_nilQ)⟩
theorem D_16 : DefX K mg "pad_frame" s_pad_frame ["fmt", "frame"] pats_pad_frame := by
  obtain ⟨fd0, F16⟩ : ∃ fd, FunD K "pad_frame" "pad_frame" (defArgs s_pad_frame) (defBody s_pad_frame) (defScope s_pad_frame) [] [] (He.ga K "pad_frame") fd := c.def_ 16 (d := dk16) rfl
  obtain ⟨kV, dc, pm, an, cd, ct, rfl⟩ := fnD_ex F16
  exact ⟨_, _, _, _, F16, (He.glo_ok X G (c.fact 2 14 (l := fa2) (f := (fun K => (He.Fa.glo "pad_frame").ok K)) rfl rfl)), (all_consQ (Bnd.all fun us ws vs zs l1 l2 r rz => by
      obtain ⟨u0, u1, rfl⟩ := len2 (r.length.symm.trans l1)
      obtain rfl := len0 (rz.length.symm.trans l2)
      cases r with | cons r0 r =>
        cases r with | cons r1 r =>
          cases r
          cases rz
          exact ⟨[u0, u1], rfl, (.cons r0 (.cons r1 .nil))⟩) all_nilQ)⟩
theorem D_17 : PropX K (He.ga K "Format") "Format.middle" "middle" s_Format_middle ["self"] pats_Format_middle := by
  obtain ⟨fd0, F17⟩ : ∃ fd, FunD K "middle" "Format.middle" (defArgs s_Format_middle) (defBody s_Format_middle) (defScope s_Format_middle) [] [] (prA "Format" "middle" K) fd := c.def_ 17 (d := dk17) rfl
  obtain ⟨kV, dc, pm, an, cd, ct, rfl⟩ := fnD_ex F17
  obtain ⟨e1, e2, e3, rs, e4⟩ := prpB_ok (c.fact 2 15 (l := fa2) (f := (prpB "Format" "middle")) rfl rfl)
  exact ⟨_, _, _, _, _, F17, ⟨e1, e2, e3, _, e4⟩, FunD.bindsN F17 (fun _ _ _ _ _ _ us h => by obtain ⟨u0, rfl⟩ := len1 h; rfl)⟩
theorem D_18 : DefX K mg "flat_frame" s_flat_frame ["fmt", "value"] pats_flat_frame := by
  obtain ⟨fd0, F18⟩ : ∃ fd, FunD K "flat_frame" "flat_frame" (defArgs s_flat_frame) (defBody s_flat_frame) (defScope s_flat_frame) [V.non] [] (He.ga K "flat_frame") fd := c.def_ 18 (d := dk18) rfl
  obtain ⟨dV, kV, dc, pm, an, cd, ct, rfl⟩ := fnD_exP F18
  exact ⟨_, _, _, _, F18, (He.glo_ok X G (c.fact 2 16 (l := fa2) (f := (fun K => (He.Fa.glo "flat_frame").ok K)) rfl rfl)), (all_consQ (Bnd.dfl F18 1 0 (by simp) (fun T kV doc pm an cdv ct us its h1 h2 => by
      obtain ⟨u0, rfl⟩ := len1 h1
      obtain ⟨i0, rfl⟩ := len1 h2
      exact ⟨_, rfl, rfl⟩)) all_nilQ)⟩
theorem D_19 : DefX K mg "middle_planes" s_middle_planes ["fmt"] pats_middle_planes := by
  obtain ⟨fd0, F19⟩ : ∃ fd, FunD K "middle_planes" "middle_planes" (defArgs s_middle_planes) (defBody s_middle_planes) (defScope s_middle_planes) [] [] (He.ga K "middle_planes") fd := c.def_ 19 (d := dk19) rfl
  obtain ⟨kV, dc, pm, an, cd, ct, rfl⟩ := fnD_ex F19
  exact ⟨_, _, _, _, F19, (He.glo_ok X G (c.fact 2 17 (l := fa2) (f := (fun K => (He.Fa.glo "middle_planes").ok K)) rfl rfl)), (all_consQ (Bnd.all fun us ws vs zs l1 l2 r rz => by
      obtain ⟨u0, rfl⟩ := len1 (r.length.symm.trans l1)
      obtain rfl := len0 (rz.length.symm.trans l2)
      cases r with | cons r0 r =>
        cases r
        cases rz
        exact ⟨[u0], rfl, (.cons r0 .nil)⟩) all_nilQ)⟩
theorem D_20 : DefX K mg "_check_numbers" s__check_numbers ["settings", "header"] pats__check_numbers := by
  obtain ⟨fd0, F20⟩ : ∃ fd, FunD K "_check_numbers" "_check_numbers" (defArgs s__check_numbers) (defBody s__check_numbers) (defScope s__check_numbers) [] [] (He.ga K "_check_numbers") fd := c.def_ 20 (d := dk20) rfl
  obtain ⟨kV, dc, pm, an, cd, ct, rfl⟩ := fnD_ex F20
  exact ⟨_, _, _, _, F20, (He.glo_ok X G (c.fact 2 18 (l := fa2) (f := (fun K => (He.Fa.glo "_check_numbers").ok K)) rfl rfl)), (all_consQ (Bnd.all fun us ws vs zs l1 l2 r rz => by
      obtain ⟨u0, u1, rfl⟩ := len2 (r.length.symm.trans l1)
      obtain rfl := len0 (rz.length.symm.trans l2)
      cases r with | cons r0 r =>
        cases r with | cons r1 r =>
          cases r
          cases rz
          exact ⟨[u0, u1], rfl, (.cons r0 (.cons r1 .nil))⟩) all_nilQ)⟩
theorem D_21 : DefX K mg "_check_slots" s__check_slots ["settings", "header"] pats__check_slots := by
  obtain ⟨fd0, F21⟩ : ∃ fd, FunD K "_check_slots" "_check_slots" (defArgs s__check_slots) (defBody s__check_slots) (defScope s__check_slots) [] [] (He.ga K "_check_slots") fd := c.def_ 21 (d := dk21) rfl
  obtain ⟨kV, dc, pm, an, cd, ct, rfl⟩ := fnD_ex F21
  exact ⟨_, _, _, _, F21, (He.glo_ok X G (c.fact 2 19 (l := fa2) (f := (fun K => (He.Fa.glo "_check_slots").ok K)) rfl rfl)), (all_consQ (Bnd.all fun us ws vs zs l1 l2 r rz => by
      obtain ⟨u0, u1, rfl⟩ := len2 (r.length.symm.trans l1)
      obtain rfl := len0 (rz.length.symm.trans l2)
      cases r with | cons r0 r =>
        cases r with | cons r1 r =>
          cases r
          cases rz
          exact ⟨[u0, u1], rfl, (.cons r0 (.cons r1 .nil))⟩) all_nilQ)⟩
theorem D_22 : InitX K mg (He.ga K "PictureHeader") "PictureHeader" "PictureHeader.__init__" s_PictureHeader___init__ ["self", "settings", "number", "kind", "level", "store", "refs", "weight", "layer", "shown", "edge"] (pats_PictureHeader___init__ (adK K)) := by
  obtain ⟨fd0, F22⟩ : ∃ fd, FunD K "__init__" "PictureHeader.__init__" (defArgs s_PictureHeader___init__) (defBody s_PictureHeader___init__) (defScope s_PictureHeader___init__) [] [("kind", V.str "I"), ("level", V.int 0), ("store", V.ref (kdA (fun K => He.ma K (He.ga K "PictureHeader") "__init__") "store" K)), ("refs", V.ref (kdA (fun K => He.ma K (He.ga K "PictureHeader") "__init__") "refs" K)), ("weight", V.int 8), ("layer", V.int 0), ("shown", V.bl true), ("edge", V.int 0)] (He.ma K (He.ga K "PictureHeader") "__init__") fd := c.def_ 22 (d := dk22) rfl
  obtain ⟨kV, dc, pm, an, cd, ct, rfl⟩ := fnD_ex F22
  exact ⟨_, _, _, _, F22, He.mkr_ok (c.fact 2 20 (l := fa2) (f := (fun K => (He.Fa.mkr "PictureHeader").ok K)) rfl rfl), (He.glo_ok X G (c.fact 2 21 (l := fa2) (f := (fun K => (He.Fa.glo "PictureHeader").ok K)) rfl rfl)), (all_consQ (Exists.elim (FunD.kbinds0 F22 2 ["number", "kind", "level", "refs", "weight", "edge"] [("store", V.ref (kdA (fun K => He.ma K (He.ga K "PictureHeader") "__init__") "store" K)), ("layer", V.int 0), ("shown", V.bl true)] (fun {α} => gk_PictureHeader___init___0 (α := α)) (by simp) (by simp) (fun r s q => gkrel_PictureHeader___init___0 r s q) (fun D doc pm an cdv ct us mv ws h1 h2 h3 => by
        obtain ⟨u0, u1, rfl⟩ := len2 h1
        obtain ⟨m0, m1, m2, rfl⟩ := len3 h2
        obtain ⟨w0, w1, w2, w3, w4, w5, rfl⟩ := len6 h3
        exact ⟨_, _, _, _, _, _, rfl, rfl, ⟨_, _, _, _, _, _, rfl, rfl, ⟨_, _, _, _, _, _, rfl, rfl, rfl⟩⟩⟩)) fun _ hb => Bnd.of_kbn hb) all_nilQ)⟩
theorem D_23 : DefX K mg "_law_header" s__law_header ["settings", "cell", "slots", "deblock"] pats__law_header := by
  obtain ⟨fd0, F23⟩ : ∃ fd, FunD K "_law_header" "_law_header" (defArgs s__law_header) (defBody s__law_header) (defScope s__law_header) [] [] (He.ga K "_law_header") fd := c.def_ 23 (d := dk23) rfl
  obtain ⟨kV, dc, pm, an, cd, ct, rfl⟩ := fnD_ex F23
  exact ⟨_, _, _, _, F23, (He.glo_ok X G (c.fact 2 22 (l := fa2) (f := (fun K => (He.Fa.glo "_law_header").ok K)) rfl rfl)), (all_consQ (Bnd.all fun us ws vs zs l1 l2 r rz => by
      obtain ⟨u0, u1, u2, u3, rfl⟩ := len4 (r.length.symm.trans l1)
      obtain rfl := len0 (rz.length.symm.trans l2)
      cases r with | cons r0 r =>
        cases r with | cons r1 r =>
          cases r with | cons r2 r =>
            cases r with | cons r3 r =>
              cases r
              cases rz
              exact ⟨[u0, u1, u2, u3], rfl, (.cons r0 (.cons r1 (.cons r2 (.cons r3 .nil))))⟩) all_nilQ)⟩
theorem D_24 : DefX K mg "copy_planes" s_copy_planes ["planes"] pats_copy_planes := by
  obtain ⟨fd0, F24⟩ : ∃ fd, FunD K "copy_planes" "copy_planes" (defArgs s_copy_planes) (defBody s_copy_planes) (defScope s_copy_planes) [] [] (He.ga K "copy_planes") fd := c.def_ 24 (d := dk24) rfl
  obtain ⟨kV, dc, pm, an, cd, ct, rfl⟩ := fnD_ex F24
  exact ⟨_, _, _, _, F24, (He.glo_ok X G (c.fact 2 23 (l := fa2) (f := (fun K => (He.Fa.glo "copy_planes").ok K)) rfl rfl)), (all_consQ (Bnd.all fun us ws vs zs l1 l2 r rz => by
      obtain ⟨u0, rfl⟩ := len1 (r.length.symm.trans l1)
      obtain rfl := len0 (rz.length.symm.trans l2)
      cases r with | cons r0 r =>
        cases r
        cases rz
        exact ⟨[u0], rfl, (.cons r0 .nil)⟩) all_nilQ)⟩
theorem D_25 : DefX K mg "_content" s__content ["fmt", "planes"] pats__content := by
  obtain ⟨fd0, F25⟩ : ∃ fd, FunD K "_content" "_content" (defArgs s__content) (defBody s__content) (defScope s__content) [] [] (He.ga K "_content") fd := c.def_ 25 (d := dk25) rfl
  obtain ⟨kV, dc, pm, an, cd, ct, rfl⟩ := fnD_ex F25
  exact ⟨_, _, _, _, F25, (He.glo_ok X G (c.fact 2 24 (l := fa2) (f := (fun K => (He.Fa.glo "_content").ok K)) rfl rfl)), (all_consQ (Bnd.all fun us ws vs zs l1 l2 r rz => by
      obtain ⟨u0, u1, rfl⟩ := len2 (r.length.symm.trans l1)
      obtain rfl := len0 (rz.length.symm.trans l2)
      cases r with | cons r0 r =>
        cases r with | cons r1 r =>
          cases r
          cases rz
          exact ⟨[u0, u1], rfl, (.cons r0 (.cons r1 .nil))⟩) all_nilQ)⟩
theorem D_26 : DefX K mg "references_of" s_references_of ["settings", "header", "slots"] pats_references_of := by
  obtain ⟨fd0, F26⟩ : ∃ fd, FunD K "references_of" "references_of" (defArgs s_references_of) (defBody s_references_of) (defScope s_references_of) [] [] (He.ga K "references_of") fd := c.def_ 26 (d := dk26) rfl
  obtain ⟨kV, dc, pm, an, cd, ct, rfl⟩ := fnD_ex F26
  exact ⟨_, _, _, _, F26, (He.glo_ok X G (c.fact 2 25 (l := fa2) (f := (fun K => (He.Fa.glo "references_of").ok K)) rfl rfl)), (all_consQ (Bnd.all fun us ws vs zs l1 l2 r rz => by
      obtain ⟨u0, u1, u2, rfl⟩ := len3 (r.length.symm.trans l1)
      obtain rfl := len0 (rz.length.symm.trans l2)
      cases r with | cons r0 r =>
        cases r with | cons r1 r =>
          cases r with | cons r2 r =>
            cases r
            cases rz
            exact ⟨[u0, u1, u2], rfl, (.cons r0 (.cons r1 (.cons r2 .nil)))⟩) all_nilQ)⟩
theorem D_27 : DefX K mg "_law_cell" s__law_cell ["script", "k"] pats__law_cell := by
  obtain ⟨fd0, F27⟩ : ∃ fd, FunD K "_law_cell" "_law_cell" (defArgs s__law_cell) (defBody s__law_cell) (defScope s__law_cell) [] [] (He.ga K "_law_cell") fd := c.def_ 27 (d := dk27) rfl
  obtain ⟨kV, dc, pm, an, cd, ct, rfl⟩ := fnD_ex F27
  exact ⟨_, _, _, _, F27, (He.glo_ok X G (c.fact 2 26 (l := fa2) (f := (fun K => (He.Fa.glo "_law_cell").ok K)) rfl rfl)), (all_consQ (Bnd.all fun us ws vs zs l1 l2 r rz => by
      obtain ⟨u0, u1, rfl⟩ := len2 (r.length.symm.trans l1)
      obtain rfl := len0 (rz.length.symm.trans l2)
      cases r with | cons r0 r =>
        cases r with | cons r1 r =>
          cases r
          cases rz
          exact ⟨[u0, u1], rfl, (.cons r0 (.cons r1 .nil))⟩) all_nilQ)⟩
theorem D_28 : DefX K mg "_law_planes" s__law_planes ["cell", "fmt", "top"] pats__law_planes := by
  obtain ⟨fd0, F28⟩ : ∃ fd, FunD K "_law_planes" "_law_planes" (defArgs s__law_planes) (defBody s__law_planes) (defScope s__law_planes) [] [] (He.ga K "_law_planes") fd := c.def_ 28 (d := dk28) rfl
  obtain ⟨kV, dc, pm, an, cd, ct, rfl⟩ := fnD_ex F28
  exact ⟨_, _, _, _, F28, (He.glo_ok X G (c.fact 2 27 (l := fa2) (f := (fun K => (He.Fa.glo "_law_planes").ok K)) rfl rfl)), (all_consQ (Bnd.all fun us ws vs zs l1 l2 r rz => by
      obtain ⟨u0, u1, u2, rfl⟩ := len3 (r.length.symm.trans l1)
      obtain rfl := len0 (rz.length.symm.trans l2)
      cases r with | cons r0 r =>
        cases r with | cons r1 r =>
          cases r with | cons r2 r =>
            cases r
            cases rz
            exact ⟨[u0, u1, u2], rfl, (.cons r0 (.cons r1 (.cons r2 .nil)))⟩) all_nilQ)⟩
theorem R__law_digits (base : Heap) : CalX P w K mg base 1 "_law_digits" (sp__law_digits K (adK K)) pats__law_digits := ok__law_digits (AD := adK K) (D_0 X G c) (T_ X G c) 
theorem R_Format___init__ (base : Heap) : MakX P w K mg base 1 "Format" (adK K).c_Format (sp_Format___init__ K (adK K)) pats_Format___init__ := ok_Format___init__ (AD := adK K) (D_1 X G c) (T_ X G c) 
theorem R__require (base : Heap) : CalX P w K mg base 1 "_require" (sp__require K (adK K)) pats__require := ok__require (AD := adK K) (D_2 X G c) (T_ X G c) 
theorem R_Settings___init__ (base : Heap) : MakX P w K mg base 2 "Settings" (adK K).c_Settings (sp_Settings___init__ K (adK K)) pats_Settings___init__ := ok_Settings___init__ (AD := adK K) (D_3 X G c) (T_ X G c) (R__require X G c base)
theorem R_Format_planes (base : Heap) : PropY P w K mg base 1 (adK K).c_Format "planes" (sp_Format_planes K (adK K)) pats_Format_planes := ok_Format_planes (AD := adK K) (D_4 X G c) (T_ X G c) 
theorem R_Format_blocks (base : Heap) : MetX P w K mg base 1 (adK K).c_Format "blocks" (sp_Format_blocks K (adK K)) pats_Format_blocks := ok_Format_blocks (AD := adK K) (D_5 X G c) (T_ X G c) 
theorem R_Format__plane_size (base : Heap) : MetX P w K mg base 3 (adK K).c_Format "_plane_size" (sp_Format__plane_size K (adK K)) pats_Format__plane_size := ok_Format__plane_size (AD := adK K) (D_6 X G c) (T_ X G c) (R_Format_planes X G c base)
theorem R_Format_coded_size (base : Heap) : MetX P w K mg base 4 (adK K).c_Format "coded_size" (sp_Format_coded_size K (adK K)) pats_Format_coded_size := ok_Format_coded_size (AD := adK K) (D_7 X G c) (T_ X G c) (R_Format_blocks X G c base) (R_Format__plane_size X G c base)
theorem R__law_middle (base : Heap) : CalX P w K mg base 5 "_law_middle" (sp__law_middle K (adK K)) pats__law_middle := ok__law_middle (AD := adK K) (D_8 X G c) (T_ X G c) (R_Format_coded_size X G c base) (R_Format_planes X G c base)
theorem R__check_shape (base : Heap) : CalX P w K mg base 1 "_check_shape" (sp__check_shape K (adK K)) pats__check_shape := ok__check_shape (AD := adK K) (D_9 X G c) (T_ X G c) 
theorem R_Format_size (base : Heap) : MetX P w K mg base 4 (adK K).c_Format "size" (sp_Format_size K (adK K)) pats_Format_size := ok_Format_size (AD := adK K) (D_10 X G c) (T_ X G c) (R_Format__plane_size X G c base)
theorem R__sizes (base : Heap) : CalX P w K mg base 5 "_sizes" (sp__sizes K (adK K)) pats__sizes := ok__sizes (AD := adK K) (D_11 X G c) (T_ X G c) (R_Format_planes X G c base) (R_Format_size X G c base)
theorem R_Format_top (base : Heap) : PropY P w K mg base 1 (adK K).c_Format "top" (sp_Format_top K (adK K)) pats_Format_top := ok_Format_top (AD := adK K) (D_12 X G c) (T_ X G c) 
theorem R_check_frame (base : Heap) : CalX P w K mg base 6 "check_frame" (sp_check_frame K (adK K)) pats_check_frame := ok_check_frame (AD := adK K) (D_13 X G c) (T_ X G c) (R__check_shape X G c base) (R__sizes X G c base) (R_Format_top X G c base)
theorem R__pad_plane (base : Heap) : CalX P w K mg base 1 "_pad_plane" (sp__pad_plane K (adK K)) pats__pad_plane := ok__pad_plane (AD := adK K) (D_14 X G c) (T_ X G c) 
theorem R__coded_sizes (base : Heap) : CalX P w K mg base 5 "_coded_sizes" (sp__coded_sizes K (adK K)) pats__coded_sizes := ok__coded_sizes (AD := adK K) (D_15 X G c) (T_ X G c) (R_Format_planes X G c base) (R_Format_coded_size X G c base)
theorem R_pad_frame (base : Heap) : CalX P w K mg base 7 "pad_frame" (sp_pad_frame K (adK K)) pats_pad_frame := ok_pad_frame (AD := adK K) (D_16 X G c) (T_ X G c) (R_check_frame X G c base) (R__coded_sizes X G c base) (R__pad_plane X G c base)
theorem R_Format_middle (base : Heap) : PropY P w K mg base 1 (adK K).c_Format "middle" (sp_Format_middle K (adK K)) pats_Format_middle := ok_Format_middle (AD := adK K) (D_17 X G c) (T_ X G c) 
theorem R_flat_frame (base : Heap) : CalX P w K mg base 6 "flat_frame" (sp_flat_frame K (adK K)) pats_flat_frame := ok_flat_frame (AD := adK K) (D_18 X G c) (T_ X G c) (R_Format_middle X G c base) (R_Format_top X G c base) (R__sizes X G c base)
theorem R_middle_planes (base : Heap) : CalX P w K mg base 8 "middle_planes" (sp_middle_planes K (adK K)) pats_middle_planes := ok_middle_planes (AD := adK K) (D_19 X G c) (T_ X G c) (R_pad_frame X G c base) (R_flat_frame X G c base)
theorem R__check_numbers (base : Heap) : CalX P w K mg base 2 "_check_numbers" (sp__check_numbers K (adK K)) pats__check_numbers := ok__check_numbers (AD := adK K) (D_20 X G c) (T_ X G c) (R__require X G c base)
theorem R__check_slots (base : Heap) : CalX P w K mg base 2 "_check_slots" (sp__check_slots K (adK K)) pats__check_slots := ok__check_slots (AD := adK K) (D_21 X G c) (T_ X G c) (R__require X G c base)
theorem R_PictureHeader___init__ (base : Heap) : MakX P w K mg base 3 "PictureHeader" (adK K).c_PictureHeader (sp_PictureHeader___init__ K (adK K)) (pats_PictureHeader___init__ (adK K)) := ok_PictureHeader___init__ (AD := adK K) (D_22 X G c) (T_ X G c) (R__check_numbers X G c base) (R__check_slots X G c base)
theorem R__law_header (base : Heap) : CalX P w K mg base 5 "_law_header" (sp__law_header K (adK K)) pats__law_header := ok__law_header (AD := adK K) (D_23 X G c) (T_ X G c) (R_PictureHeader___init__ X G c base)
theorem R_copy_planes (base : Heap) : CalX P w K mg base 1 "copy_planes" (sp_copy_planes K (adK K)) pats_copy_planes := ok_copy_planes (AD := adK K) (D_24 X G c) (T_ X G c) 
theorem R__content (base : Heap) : CalX P w K mg base 9 "_content" (sp__content K (adK K)) pats__content := ok__content (AD := adK K) (D_25 X G c) (T_ X G c) (R_middle_planes X G c base) (R_copy_planes X G c base)
theorem R_references_of (base : Heap) : CalX P w K mg base 10 "references_of" (sp_references_of K (adK K)) pats_references_of := ok_references_of (AD := adK K) (D_26 X G c) (T_ X G c) (R__content X G c base)
theorem R__law_cell (base : Heap) : CalX P w K mg base 1 "_law_cell" (sp__law_cell K (adK K)) pats__law_cell := ok__law_cell (AD := adK K) (D_27 X G c) (T_ X G c) 
theorem R__law_planes (base : Heap) : CalX P w K mg base 5 "_law_planes" (sp__law_planes K (adK K)) pats__law_planes := ok__law_planes (AD := adK K) (D_28 X G c) (T_ X G c) (R_Format_coded_size X G c base) (R__law_digits X G c base) (R_Format_planes X G c base)
theorem law_fact {fa : Addr} (hfa : mg "law" = some (.ref fa)) :
    ∃ fd : FuncData, (∀ (s : Shared) (v : Value), BindsTo s fd ⟨[v], []⟩ [("script", v)]) ∧ ∀ base : Heap, K.In base → base.Ns mainGlobals mg → FnG P w K mg base CX0 11 fa fd ["script"] (spL K) := by
  have e := hfa.symm.trans (He.glo_ok X G (c.fact 2 28 (l := fa2) (f := (fun K => (He.Fa.glo "law").ok K)) rfl rfl))
  cases e
  obtain ⟨fd0, F29⟩ : ∃ fd, FunD K "law" "law" (defArgs s_law) (defBody s_law) (defScope s_law) [] [] (He.ga K "law") fd := c.def_ 29 (d := dk29) rfl
  have b := FunD.bindsA (ps := ["script"]) F29 fun _ _ _ _ _ _ us hl => match us, hl with | [_], _ => rfl
  refine ⟨fd0, fun s v => b s [v] rfl, fun base _ _ => (ok_law (AD := adK K) F29 (T_ X G c) (R__law_digits X G c base) (R__law_cell X G c base) (R_Format___init__ X G c base) (R_Settings___init__ X G c base) (R__law_middle X G c base) (R_middle_planes X G c base) (R__law_planes X G c base) (R_Format_top X G c base) (R__law_header X G c base) (R_references_of X G c base)).imp ?_⟩
  rintro vs H Q E ⟨a, xs, rfl, hs, hl, q⟩
  exact ⟨a, xs, rfl, hs, by rw [law_true xs hl]; exact cW_mk rfl, q⟩
end
end Vx
open PySem PySem.W PySem.Calls PyProof.Rows
set_option maxRecDepth 100000 in
set_option maxHeartbeats 0 in
theorem PySem.Challenge.cw_thaumatrope_k59_references_of_pictures_holds : PySem.Challenge.rw_thaumatrope_k59_references_of_pictures.Holds := by
  w_on; o_law
  refine HandSHeadRun.head_any (r := (PySem.W.OpenLaw.row PySem.Challenge.rw_thaumatrope_k59_references_of_pictures)) (q := view (PySem.W.OpenLaw.row PySem.Challenge.rw_thaumatrope_k59_references_of_pictures).prog [39]) (H := Vx.hkK) (ob := Vx.obK) (M := 20000) (loose := Vx.nms) (d := HandSHeadRun.topDef (PySem.W.OpenLaw.row PySem.Challenge.rw_thaumatrope_k59_references_of_pictures).prog 39) (kwd := []) Vx.obK_eq
    (by kernel_rfl) (fun s => by kernel_rfl) Vx.runK (by kernel_rfl) (by kernel_rfl) (by kernel_rfl) (by rfl) (by first | assumption | decide +kernel) (by decide +kernel) ⟨rfl, rfl, rfl, rfl, rfl, by decide +kernel⟩ ?hw ?hc
  case hw => w_witness2
  case hc =>
    refine Vx.walkK (l := PySem.Challenge.rw_thaumatrope_k59_references_of_pictures) (n := 63) (k := 11) (x := "script") rfl (by decide) (by kernel_rfl) ⟨rfl, by decide, by decide⟩ ?F
    intro w mg fa h Y G hmg0
    obtain ⟨K, KX, c⟩ := Y
    have hmg : mg ("law" : PySem.Str) = some (.ref fa) := by
      have e : (HandSHeadRun.topDef (PySem.W.OpenLaw.row PySem.Challenge.rw_thaumatrope_k59_references_of_pictures).prog 39).name = ("law" : PySem.Str) := by kernel_rfl
      rw [← e]
      exact hmg0
    obtain ⟨fd, hb, hF⟩ := Vx.law_fact (P := (PySem.W.OpenLaw.row PySem.Challenge.rw_thaumatrope_k59_references_of_pictures).prog) KX G c hmg
    exact ⟨K, fd, KX, hb, hF⟩
