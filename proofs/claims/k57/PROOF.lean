import PyProof.Rows.All
import Wide.All
import OpenK.AllK
import Wide.FinOn
import HandS.ForMost
import HandS.Codes
import HandS.Steps
import HandS.IsInst
import HandS.Property
import HandS.Wide
import HandS.WideBits
import HandS.Exc
import HandS.Defaults
import HandS.ExcOwn
import HandS.TryOnly
import HandS.WordsExc
import HandS.ExcIs
import HandS.MakeKwOnly
import HandS.RaiseMore
import HandS.Style
import HandS.Zip
import HandS.Iter
import HandS.Star
import HandS.Walk
import HandS.More
import HandS.SetFor
import HandS.Strs
import HandS.SortInts
import HandS.Head0
import HandS.Head1
import HandS.Head2
import HandS.HeadEnd
import HandS.HeadHook1
import HandS.HeadHook2
import HandS.HeadHook3
import HandS.HeadNt
import KE.KStateDown
import PySem.Challenge.RW_thaumatrope_k57_whole_pictures_deblocked
set_option Elab.async false
set_option linter.all false
set_option maxRecDepth 100000
set_option maxHeartbeats 8000000
namespace Vx
open PySem PySem.Spec PyProof.Rows L2

/-! ### heaps -/
def SameX (m : Addr) (H H' : Hp) : Prop := ∀ b o, H b = some o → b ≠ m → H' b = some o
theorem gen_new {H H' : Hp} {p : Addr} {o : HO} (n : H p = none) (h : upd H p o = H') : Same H H' ∧ H' p = some o := by
  subst h
  exact ⟨fun b u e => by rw [upd_ne (ne_of_none e n)]; exact e, upd_same⟩
theorem gen_mut {H H' : Hp} {m : Addr} {o : HO} (h : upd H m o = H') : SameX m H H' ∧ H' m = some o := by
  subst h
  exact ⟨fun b u e n => by rw [upd_ne n]; exact e, upd_same⟩
theorem same_mut {H0 H H' : Hp} {m : Addr} (B : Same H0 H) (x : SameX m H H') (f : H0 m = none) : Same H0 H' :=
  fun b o e => x b o (B b o e) (ne_of_none e f)
theorem map_get {xs : List Int} {i : Nat} {x : V} (h : (xs.map V.int)[i]? = some x) : ∃ o, xs[i]? = some o ∧ x = .int o := by
  rw [List.getElem?_map] at h
  cases e : xs[i]? with
  | none => rw [e] at h; cases h
  | some z => rw [e] at h; exact ⟨z, rfl, (Option.some.inj h).symm⟩
theorem get_len {α : Type} {xs : List α} {i : Nat} {x : α} (h : xs[i]? = some x) : i < xs.length := (List.getElem?_eq_some_iff.mp h).1
theorem eq_int {Q : VK} {H : Hp} {a b : Int} (h : Q (.int a) H) (e : a = b) : Q (.int b) H := e ▸ h
theorem eq_bl {Q : VK} {H : Hp} {a b : Bool} (h : Q (.bl a) H) (e : a = b) : Q (.bl b) H := e ▸ h
theorem small {n : Nat} (h : n ≤ 1000000) : n < sizeLine := Nat.lt_of_le_of_lt h (by decide)
theorem smallE {n : Nat} (h : n ≤ 1000000) : n ≤ sizeLine := Nat.le_of_lt (small h)
theorem snoc_int {xs : List Int} {y : Int} {H : Hp} {p : Addr} (h : H p = some (.lst (xs.map V.int ++ [V.int y]))) : H p = some (.lst ((xs ++ [y]).map V.int)) := by
  rw [List.map_append]; exact h
theorem cat_int {xs ys : List Int} {H : Hp} {p : Addr} (h : H p = some (.lst (xs.map V.int ++ ys.map V.int))) : H p = some (.lst ((xs ++ ys).map V.int)) := by
  rw [List.map_append]; exact h
theorem cast_lst {xs ys : List Int} {H : Hp} {p : Addr} (h : H p = some (.lst (xs.map V.int))) (e : xs = ys) : H p = some (.lst (ys.map V.int)) := e ▸ h

/-! ### tests -/
theorem dT {p : Prop} [Decidable p] (h : decide p = true) : p := of_decide_eq_true h
theorem dF {p : Prop} [Decidable p] (h : ¬ decide p = true) : ¬ p := fun x => h (decide_eq_true x)
theorem iteD {p A B : Prop} [Decidable p] (h1 : p → A) (h2 : ¬ p → B) : if decide p = true then A else B := by
  by_cases h : p
  · rw [if_pos (decide_eq_true h)]; exact h1 h
  · rw [if_neg (fun x => h (of_decide_eq_true x))]; exact h2 h
theorem iteN {p A B : Prop} [Decidable p] (h1 : ¬ p → A) (h2 : p → B) : if (!decide p) = true then A else B := by
  by_cases h : p
  · rw [decide_eq_true h]; exact iteF (h2 h)
  · rw [decide_eq_false h]; exact iteT (h1 h)
theorem iteB {b : Bool} {A B : Prop} (h1 : b = true → A) (h2 : b = false → B) : if b = true then A else B := by
  cases b with
  | true => exact iteT (h1 rfl)
  | false => exact iteF (h2 rfl)
theorem iteBN {b : Bool} {A B : Prop} (h1 : b = false → A) (h2 : b = true → B) : if (!b) = true then A else B := by
  cases b with
  | true => exact iteF (h2 rfl)
  | false => exact iteT (h1 rfl)
theorem iteDT {p A B : Prop} [Decidable p] (h : p) (k : A) : if decide p = true then A else B := by
  rw [if_pos (decide_eq_true h)]; exact k
theorem iteDF {p A B : Prop} [Decidable p] (h : ¬ p) (k : B) : if decide p = true then A else B := by
  rw [if_neg (fun x => h (of_decide_eq_true x))]; exact k
theorem iteNT {p A B : Prop} [Decidable p] (h : ¬ p) (k : A) : if (!decide p) = true then A else B := iteN (fun _ => k) (fun x => (h x).elim)
theorem iteNF {p A B : Prop} [Decidable p] (h : p) (k : B) : if (!decide p) = true then A else B := iteN (fun x => (x h).elim) (fun _ => k)

/-! ### equality of lists of ints -/
theorem eqvAll_ints : ∀ xs ys : List Int, PyData.eqvAll (xs.map PyData.int) (ys.map PyData.int) = decide (xs = ys)
  | [], [] => by simp [PyData.eqvAll]
  | [], y :: ys => by simp [PyData.eqvAll]
  | x :: xs, [] => by simp [PyData.eqvAll]
  | x :: xs, y :: ys => by
    have ih := eqvAll_ints xs ys
    simp only [List.map_cons, PyData.eqvAll, PyData.eqv, ih]
    by_cases h : x = y <;> by_cases h2 : xs = ys <;> simp [h, h2]
end Vx

namespace Vx
open PySem PySem.Spec PyProof.Rows L2
section
variable {X : Cx}
def rEqLi (K : PySem.W.Frag) : R2 := fun x y H Q => ∃ (a b : Addr) (xs ys : List Int), x = .ref a ∧ y = .ref b ∧ SqL K H a (xs.map V.int) ∧ SqL K H b (ys.map V.int) ∧ Q (.bl (decide (xs = ys))) H
def rNeLi (K : PySem.W.Frag) : R2 := fun x y H Q => ∃ (a b : Addr) (xs ys : List Int), x = .ref a ∧ y = .ref b ∧ SqL K H a (xs.map V.int) ∧ SqL K H b (ys.map V.int) ∧ Q (.bl (!decide (xs = ys))) H
theorem dpAll_ints {K : PySem.W.Frag} {H : Hp} : ∀ xs : List Int, DpAll K H (xs.map V.int) (xs.map PyData.int)
  | [] => .nil
  | x :: xs => .cons (.int x) (dpAll_ints xs)
theorem dp_ints {K : PySem.W.Frag} {H : Hp} {a : Addr} {xs : List Int} (h : SqL K H a (xs.map V.int)) : Dp K H (.ref a) (.list (xs.map PyData.int)) := .lst h (dpAll_ints xs)
theorem canLay_ints : ∀ xs : List Int, PyData.canLayAll0 (xs.map PyData.int) = true
  | [] => by simp [PyData.canLayAll0]
  | x :: xs => by simp [PyData.canLayAll0, PyData.canLay0, canLay_ints xs]
theorem depth_ints : ∀ xs : List Int, PyData.depthAll (xs.map PyData.int) = 0
  | [] => by simp [PyData.depthAll]
  | x :: xs => by simp [PyData.depthAll, PyData.depth, depth_ints xs]
theorem shaped_ints (xs : List Int) : SeqAt.shaped (.list (xs.map PyData.int)) = true := by
  unfold SeqAt.shaped
  simp [PyData.canLay0, canLay_ints, PyData.depth, depth_ints]
theorem eqv_ints (xs ys : List Int) : PyData.eqv (.list (xs.map PyData.int)) (.list (ys.map PyData.int)) = decide (xs = ys) := by
  simp only [PyData.eqv]
  exact eqvAll_ints xs ys
theorem op_eqLi (hu : X.A.units + 64 < cLine) : OpR X (compareOp .Eq) (rEqLi X.K) := by
  intro pins s σ H x y v u Q I rx ry h
  obtain ⟨a, b, xs, ys, rfl, rfl, h1, h2, q⟩ := h
  exact op_eqD hu pins s σ H _ _ v u Q I rx ry ⟨_, _, dp_ints h1, dp_ints h2, shaped_ints xs, shaped_ints ys, by rw [eqv_ints]; exact q⟩
theorem op_neLi (hu : X.A.units + 64 < cLine) : OpR X (compareOp .NotEq) (rNeLi X.K) := by
  intro pins s σ H x y v u Q I rx ry h
  obtain ⟨a, b, xs, ys, rfl, rfl, h1, h2, q⟩ := h
  exact op_neD hu pins s σ H _ _ v u Q I rx ry ⟨_, _, dp_ints h1, dp_ints h2, shaped_ints xs, shaped_ints ys, by rw [eqv_ints]; exact q⟩

/-! ### items, slices, repetition, comprehensions of ints -/
def itI (xs : List Int) (i : Int) : Int := (atI xs i).getD 0
theorem atI_int {xs : List Int} {i : Int} (h : -(xs.length : Int) ≤ i ∧ i < xs.length) : atI (xs.map V.int) i = some (.int (itI xs i)) := by
  unfold itI atI
  rw [List.length_map]
  have hk : ∃ j, ixN xs.length i = some j ∧ j < xs.length := by
    unfold ixN
    by_cases h0 : 0 ≤ i
    · refine ⟨i.toNat, ?_, by omega⟩
      rw [if_pos h0, if_pos h.2]
    · refine ⟨(i + xs.length).toNat, ?_, by omega⟩
      rw [if_neg h0, if_pos h.1]
  obtain ⟨j, e, hj⟩ := hk
  rw [e]
  show (xs.map V.int)[j]? = some (V.int ((xs[j]?).getD 0))
  rw [List.getElem?_map, List.getElem?_eq_getElem hj] <;> rfl
def cutI (xs : List Int) (lo hi : Option Int) : List Int := (xs.drop (HT.sIx xs.length 0 lo)).take (HT.sIx xs.length xs.length hi - HT.sIx xs.length 0 lo)
theorem cut_int {xs : List Int} {lo hi : Option Int} {H : Hp} {p : Addr} (h : H p = some (.lst (cutV (xs.map V.int) lo hi))) : H p = some (.lst ((cutI xs lo hi).map V.int)) := by
  rw [h]
  unfold cutV cutI
  rw [List.length_map, List.map_take, List.map_drop]
def rep (xs : List Int) (k : Int) : List Int := (List.replicate k.toNat xs).flatten
theorem rep_int {xs : List Int} {k : Int} {H : Hp} {p : Addr} (h : H p = some (.lst (List.replicate k.toNat (xs.map V.int)).flatten)) : H p = some (.lst ((rep xs k).map V.int)) := by
  rw [h]
  unfold rep
  rw [List.map_flatten, List.map_replicate]
theorem divW_lit {i j : Int} (h : 0 < j) (h2 : j.natAbs.log2 < 9000) : CDivW i j := ⟨h, h2⟩
theorem divW_small {i j : Int} (h : 0 < j) (h2 : j < 2 ^ 128) : CDivW i j := wide_div h (show j.natAbs < 2 ^ 128 by omega) (by decide) (by decide)
theorem comp_list {xs : List Int} {i : Nat} {x y : Int} {f : Int → Int} {H : Hp} {D : Addr} (hi : xs[i]? = some x) (h : H D = some (.lst (((xs.take i).map f).map V.int ++ [V.int y]))) (e : f x = y) : H D = some (.lst (((xs.take (i + 1)).map f).map V.int)) := by
  rw [h, ← e, List.take_succ, hi, List.map_append, List.map_append] <;> rfl
theorem comp_done {xs : List Int} {f : Int → Int} {H : Hp} {D : Addr} (h : H D = some (.lst (((xs.take (xs.map V.int).length).map f).map V.int))) : H D = some (.lst ((xs.map f).map V.int)) := by
  rw [List.length_map, List.take_length] at h
  exact h
theorem comp_range {i : Nat} {y : Int} {f : Nat → Int} {H : Hp} {D : Addr} (h : H D = some (.lst (((List.range i).map f).map V.int ++ [V.int y]))) (e : f i = y) : H D = some (.lst (((List.range (i + 1)).map f).map V.int)) := by
  rw [h, ← e, List.range_succ, List.map_append, List.map_append] <;> rfl
theorem iteBT {b : Bool} {A B : Prop} (h : b = true) (k : A) : if b = true then A else B := by rw [if_pos h]; exact k
theorem iteBF {b : Bool} {A B : Prop} (h : b = false) (k : B) : if b = true then A else B := by rw [if_neg (by rw [h]; decide)]; exact k
theorem take_succ_get {α : Type} {xs : List α} {i : Nat} {x : α} (hi : xs[i]? = some x) : xs.take (i + 1) = xs.take i ++ [x] := by rw [List.take_succ, hi] <;> rfl
end

/-! ### defs of the module, as callers see them -/
section
variable {P : Program} {w : World} {K : PySem.W.Frag} {mg : Str → Option Value} {base : Heap}
structure DefIn (K : PySem.W.Frag) (mg : Str → Option Value) (x : Str) (st : Stmt) (ps : List Str) : Prop where
  ex : ∃ (f : Addr) (fd : FuncData), Fun K x x st f fd ∧ mg x = some (.ref f) ∧ Binds K fd ps []
structure Cal (P : Program) (w : World) (K : PySem.W.Frag) (mg : Str → Option Value) (base : Heap) (k : Nat) (x : Str) (sp : Sp) : Prop where
  ex : ∃ (f : Addr) (fd : FuncData) (ps : List Str), FnOk P w K mg base CX0 k f fd ps sp ∧ mg x = some (.ref f) ∧ PySem.W.keepIn K (.ref f) = true ∧ Binds K fd ps []
theorem DefIn.ok {x : Str} {st : Stmt} {N ps : List Str} {k : Nat} {sp : Sp} (D : DefIn K mg x st ps) (S : FnScope N ps (defScope st)) (len : ∀ vs H Q E, sp vs H Q E → vs.length = ps.length)
    (hbody : ∀ (f : Addr) (cdv : Value) (A : Around) (outer : List Env) (s : Shared) (H : Hp) (vs : List V) (Q : VK) (E : XK), Room k (A.deeper (envOfC x (defScope st) s.heap.objs.size f cdv)) → sp vs H Q E →
      ∃ t, PSs (cxOf CX0 P w K mg base N x (defScope st) f cdv A outer s H E).nox (defBody st) t ∧ t { nx := fun _ H' => Q .non H', rt := Q } (start N vs) H) : Cal P w K mg base (k + 1) x sp := by
  obtain ⟨f, fd, F, hm, b⟩ := D.ex
  exact ⟨f, fd, ps, F.ok S len (fun cdv A outer s H vs Q E hr h => hbody f cdv A outer s H vs Q E hr h), hm, F.kp, b⟩
end
section
variable {X : Cx} {k j : Nat} {x : Str} {sp : Sp} {p pos : Pos} {e : Expr} {es : List Expr} {t : TA}
theorem vx_call (c : Cal X.prog X.w X.K X.mg X.base k x sp) (hr : Room j X.A) (hk : k ≤ j) (hg : Gl X x) (ha : PA X (e :: es) t)
    (hdb : (x == ("__debug__" : Str)) = false := by decide) (he : starEach (e :: es) X.env = (false, eval e X.env) :: starEach es X.env := by rfl) (hpl : (backTo pos (starEach es X.env)).any (·.1) = false := by rfl) :
    PE X (.Call (.Name x p) (e :: es) [] pos) (tCall sp [] E0 t) := by
  obtain ⟨f, fd, ps, F, hm, kp, b⟩ := c.ex
  exact pe_call F (hr.mono hk) hg hm kp b .nil pass0 ha hdb he hpl
end
end Vx

namespace Vx
open PySem PySem.Spec PyProof.Rows L2
section
variable {σ : L2.St} {H : Hp} {ta tb : TE} {x y z : V} {t : TT}
theorem vv_and {a b : Bool} (h1 : Val ta σ H (.bl a)) (h2 : Val tb σ H (.bl b)) : Val (tAndV ta tb) σ H (.bl (a && b)) := fun Q q => h1 _ ⟨a, rfl, by
  cases a with
  | true => exact iteT (h2 Q q)
  | false => exact iteF q⟩
theorem vv_or {a b : Bool} (h1 : Val ta σ H (.bl a)) (h2 : Val tb σ H (.bl b)) : Val (tOrV ta tb) σ H (.bl (a || b)) := fun Q q => h1 _ ⟨a, rfl, by
  cases a with
  | true => exact iteT q
  | false => exact iteF (h2 Q q)⟩
theorem vv_not {a : Bool} (h1 : Val ta σ H (.bl a)) : Val (tNotV ta) σ H (.bl (!a)) := fun Q q => h1 _ ⟨a, rfl, q⟩
theorem vv_un {r : V → Hp → VK → Prop} (ha : Val ta σ H x) (hr : ∀ Q : VK, Q z H → r x H Q) : Val (tUn r ta) σ H z := fun Q q => ha _ (hr Q q)
theorem vv_cmp {p : Int → Int → Bool} (ha : Val ta σ H x) (hb : Val tb σ H y) (hr : ∀ Q : VK, Q z H → ∃ i j, x = .int i ∧ y = .int j ∧ Q (.bl (p i j)) H) : Val (tCmp p ta tb) σ H z := fun Q q => ha _ (hb _ (hr Q q))
theorem vv_call1 {r : List V → Hp → VK → Prop} (ha : Val ta σ H x) (hr : ∀ Q : VK, Q z H → r [x] H Q) : Val (tCB r (tCons ta tNil)) σ H z := fun Q q => ha _ (hr Q q)
theorem vt_cmp {b : Bool} (h : Val ta σ H (.bl b)) : Ans (tB ta) σ H b := fun Q q => h _ ⟨b, rfl, q⟩
theorem vt_val {b : Bool} (h : Val ta σ H (.bl b)) : Ans (tB ta) σ H b := fun Q q => h _ ⟨b, rfl, q⟩
theorem vt_int {i : Int} {K : PySem.W.Frag} (h : Val ta σ H (.int i)) : Ans (fun σ H Q => ta σ H fun x H' => ∃ k, TruV K x H' k ∧ Q k H') σ H (i != 0) := fun Q q => h _ ⟨_, rfl, q⟩
theorem vv_if {p : Prop} [Decidable p] {a b : Int} (ht : Ans t σ H (decide p)) (hx : Val ta σ H (.int a)) (hy : Val tb σ H (.int b)) : Val (tIf t ta tb) σ H (.int (if p then a else b)) := fun Q q => ht _ (by
  by_cases h : p
  · rw [if_pos h] at q; exact iteDT h (hx Q q)
  · rw [if_neg h] at q; exact iteDF h (hy Q q))
theorem vv_ifb {c : Bool} {a b : Int} (ht : Ans t σ H c) (hx : Val ta σ H (.int a)) (hy : Val tb σ H (.int b)) : Val (tIf t ta tb) σ H (.int (if c = true then a else b)) := fun Q q => ht _ (by
  cases c with
  | true => exact iteT (hx Q q)
  | false => exact iteF (hy Q q))
end
end Vx

namespace Vx
open PySem PySem.Spec PyProof.Rows L2
def rLenLi (K : PySem.W.Frag) : List V → Hp → VK → Prop := fun xs H Q => ∃ (p : Addr) (ns : List Int), xs = [.ref p] ∧ SqL K H p (ns.map V.int) ∧ Q (.int (ns.length : Int)) H
theorem call_lenLi {X : Cx} : CallR X (.builtin "len") (rLenLi X.K) := by
  intro pins s σ H xs us Q I r h
  obtain ⟨p, ns, rfl, hs, q⟩ := h
  exact call_len_seq pins s σ H _ us Q I r ⟨p, _, rfl, Or.inl hs, by rw [List.length_map]; exact q⟩
end Vx

namespace Vx
open PySem PySem.Spec PyProof.Rows L2
section
variable {X : Cx} {K : PySem.W.Frag}
theorem ix_listK (hK : X.K = K := by rfl) : IxR X (rIxL K) := hK ▸ ix_list
theorem sl_listK (hK : X.K = K := by rfl) : SlR X (rSlL K) := hK ▸ sl_list
theorem call_lenLiK (hK : X.K = K := by rfl) : CallR X (.builtin "len") (rLenLi K) := hK ▸ call_lenLi
theorem op_eqLiK (hu : X.A.units + 64 < cLine) (hK : X.K = K := by rfl) : OpR X (compareOp .Eq) (rEqLi K) := hK ▸ op_eqLi hu
theorem op_neLiK (hu : X.A.units + 64 < cLine) (hK : X.K = K := by rfl) : OpR X (compareOp .NotEq) (rNeLi K) := hK ▸ op_neLi hu
theorem pi_listK {tg l : Expr} {tl : TE} (hl : PE X l tl) (hK : X.K = K := by rfl) : PI X tg l (iList K tl) := hK ▸ pi_list hl
theorem cr_sumK (hc : X.calm = true) (hK : X.K = K := by rfl) : CallR X (.builtin "sum") (rSum K) := hK ▸ cr_sum hc
theorem cr_maxK (hc : X.calm = true) (hK : X.K = K := by rfl) : CallR X (.builtin "max") (rMax K) := hK ▸ cr_max hc
theorem cr_minK (hc : X.calm = true) (hK : X.K = K := by rfl) : CallR X (.builtin "min") (rMin K) := hK ▸ cr_min hc
end
end Vx

namespace Vx
open PySem PySem.Spec PyProof.Rows L2
theorem tyes_go {σ : L2.St} {H : Hp} {f g : Hp → Prop} (h : f H) : tYes σ H (fun b H3 => if b = true then f H3 else g H3) := by
  show if true = true then f H else g H
  exact iteT h
end Vx

/-! # second part: data of any depth, the stable heap G, the owned addresses O -/
namespace Vx
open PySem PySem.Spec PyProof.Rows L2
mutual
inductive Rp (H : Hp) : V → PyData → Prop
  | non : Rp H .non .none
  | bl (b : Bool) : Rp H (.bl b) (.bool b)
  | int (i : Int) : Rp H (.int i) (.int i)
  | str (x : Str) : Rp H (.str x) (.str x)
  | lst {a : Addr} {xs : List V} {ds : List PyData} : H a = some (.lst xs) → RpAll H xs ds → Rp H (.ref a) (.list ds)
  | tup {a : Addr} {xs : List V} {ds : List PyData} : H a = some (.tup xs) → RpAll H xs ds → Rp H (.ref a) (.tuple ds)
inductive RpAll (H : Hp) : List V → List PyData → Prop
  | nil : RpAll H [] []
  | cons {v : V} {vs : List V} {d : PyData} {ds : List PyData} : Rp H v d → RpAll H vs ds → RpAll H (v :: vs) (d :: ds)
end
mutual
theorem Rp.mono {H H' : Hp} (e : Same H H') : ∀ {v : V} {d : PyData}, Rp H v d → Rp H' v d
  | _, _, .non => .non
  | _, _, .bl b => .bl b
  | _, _, .int i => .int i
  | _, _, .str x => .str x
  | _, _, .lst h r => .lst (e _ _ h) (RpAll.mono e r)
  | _, _, .tup h r => .tup (e _ _ h) (RpAll.mono e r)
theorem RpAll.mono {H H' : Hp} (e : Same H H') : ∀ {vs : List V} {ds : List PyData}, RpAll H vs ds → RpAll H' vs ds
  | _, _, .nil => .nil
  | _, _, .cons a b => .cons (Rp.mono e a) (RpAll.mono e b)
end
mutual
theorem Rp.dp {K : PySem.W.Frag} {H : Hp} : ∀ {v : V} {d : PyData}, Rp H v d → Dp K H v d
  | _, _, .non => .non
  | _, _, .bl b => .bl b
  | _, _, .int i => .int i
  | _, _, .str x => .str x
  | _, _, .lst h r => .lst (SqL.of h) (RpAll.dp r)
  | _, _, .tup h r => .tup (SqT.of h) (RpAll.dp r)
theorem RpAll.dp {K : PySem.W.Frag} {H : Hp} : ∀ {vs : List V} {ds : List PyData}, RpAll H vs ds → DpAll K H vs ds
  | _, _, .nil => .nil
  | _, _, .cons a b => .cons (Rp.dp a) (RpAll.dp b)
end
theorem RpAll.append {H : Hp} : ∀ {xs ys : List V} {ds es : List PyData}, RpAll H xs ds → RpAll H ys es → RpAll H (xs ++ ys) (ds ++ es)
  | _, _, _, _, .nil, s => s
  | _, _, _, _, .cons r t, s => .cons r (RpAll.append t s)
theorem RpAll.ints {H : Hp} : ∀ xs : List Int, RpAll H (xs.map V.int) (xs.map PyData.int)
  | [] => .nil
  | x :: xs => .cons (.int x) (RpAll.ints xs)
theorem RpAll.bls {H : Hp} : ∀ xs : List Bool, RpAll H (xs.map V.bl) (xs.map PyData.bool)
  | [] => .nil
  | x :: xs => .cons (.bl x) (RpAll.bls xs)
theorem RpAll.one {H : Hp} {v : V} {d : PyData} (h : Rp H v d) : RpAll H [v] [d] := .cons h .nil
theorem RpAll.len {H : Hp} : ∀ {vs : List V} {ds : List PyData}, RpAll H vs ds → vs.length = ds.length
  | _, _, .nil => rfl
  | _, _, .cons _ t => by rw [List.length_cons, List.length_cons, RpAll.len t]
theorem RpAll.at {H : Hp} : ∀ {vs : List V} {ds : List PyData} {i : Nat} {v : V}, RpAll H vs ds → vs[i]? = some v → ∃ d, ds[i]? = some d ∧ Rp H v d
  | _, _, _, _, .nil, h => by simp at h
  | _, _, 0, _, .cons r _, h => by
    simp at h
    subst h
    exact ⟨_, rfl, r⟩
  | _, _, i + 1, _, .cons _ t, h => by
    obtain ⟨d, h1, h2⟩ := RpAll.at (i := i) t (by simpa using h)
    exact ⟨d, by simpa using h1, h2⟩
theorem RpAll.at' {H : Hp} : ∀ {vs : List V} {ds : List PyData} {i : Nat} {d : PyData}, RpAll H vs ds → ds[i]? = some d → ∃ v, vs[i]? = some v ∧ Rp H v d
  | _, _, _, _, .nil, h => by simp at h
  | _, _, 0, _, .cons r _, h => by
    simp at h
    subst h
    exact ⟨_, rfl, r⟩
  | _, _, i + 1, _, .cons _ t, h => by
    obtain ⟨v, h1, h2⟩ := RpAll.at' (i := i) t (by simpa using h)
    exact ⟨v, by simpa using h1, h2⟩
theorem RpAll.take {H : Hp} : ∀ (n : Nat) {vs : List V} {ds : List PyData}, RpAll H vs ds → RpAll H (vs.take n) (ds.take n)
  | 0, _, _, _ => by simpa using RpAll.nil
  | n + 1, _, _, .nil => by simpa using RpAll.nil
  | n + 1, _, _, .cons r t => .cons r (RpAll.take n t)
theorem RpAll.drop {H : Hp} : ∀ (n : Nat) {vs : List V} {ds : List PyData}, RpAll H vs ds → RpAll H (vs.drop n) (ds.drop n)
  | 0, _, _, r => r
  | n + 1, _, _, .nil => by simpa using RpAll.nil
  | n + 1, _, _, .cons r t => RpAll.drop n t
theorem RpAll.set {H : Hp} {v : V} {d : PyData} (h : Rp H v d) : ∀ (n : Nat) {vs : List V} {ds : List PyData}, RpAll H vs ds → RpAll H (vs.set n v) (ds.set n d)
  | _, _, _, .nil => .nil
  | 0, _, _, .cons _ t => .cons h t
  | n + 1, _, _, .cons r t => .cons r (RpAll.set h n t)
theorem RpAll.rep {H : Hp} {vs : List V} {ds : List PyData} (h : RpAll H vs ds) : ∀ n : Nat, RpAll H (List.replicate n vs).flatten (List.replicate n ds).flatten
  | 0 => by simpa using RpAll.nil
  | n + 1 => by
    rw [List.replicate_succ, List.flatten_cons, List.replicate_succ, List.flatten_cons]
    exact RpAll.append h (RpAll.rep h n)
theorem RpAll.get {α : Type} {f : α → PyData} {H : Hp} {vs : List V} {xs : List α} {i : Nat} {v : V} (r : RpAll H vs (xs.map f)) (h : vs[i]? = some v) : ∃ x, xs[i]? = some x ∧ Rp H v (f x) := by
  obtain ⟨d, h1, h2⟩ := RpAll.at r h
  rw [List.getElem?_map] at h1
  cases e : xs[i]? with
  | none => rw [e] at h1; cases h1
  | some x =>
    rw [e] at h1
    have : f x = d := Option.some.inj h1
    exact ⟨x, rfl, this ▸ h2⟩
/-- the item at an index, data -/
theorem RpAll.ix {α : Type} {f : α → PyData} {H : Hp} {vs : List V} {xs : List α} {k : Int} (r : RpAll H vs (xs.map f)) (h : -(xs.length : Int) ≤ k ∧ k < xs.length) : ∃ v x, atI vs k = some v ∧ atI xs k = some x ∧ Rp H v (f x) := by
  have hl : vs.length = xs.length := by rw [r.len, List.length_map]
  have hk : ∃ j, ixN xs.length k = some j ∧ j < xs.length := by
    unfold ixN
    by_cases h0 : 0 ≤ k
    · refine ⟨k.toNat, ?_, by omega⟩
      rw [if_pos h0, if_pos h.2]
    · refine ⟨(k + xs.length).toNat, ?_, by omega⟩
      rw [if_neg h0, if_pos h.1]
  obtain ⟨j, e, hj⟩ := hk
  have hx := List.getElem?_eq_getElem hj
  obtain ⟨v, h1, h2⟩ := RpAll.at' (i := j) (d := f xs[j]) r (by rw [List.getElem?_map, hx] <;> rfl)
  refine ⟨v, xs[j], ?_, ?_, h2⟩
  · unfold atI
    rw [hl, e]
    exact h1
  · unfold atI
    rw [e]
    exact hx

/-! ### types -/
def encL {α : Type} (f : α → PyData) (xs : List α) : PyData := .list (xs.map f)
def encT2 {α β : Type} (f : α → PyData) (g : β → PyData) (p : α × β) : PyData := .tuple [f p.1, g p.2]
def encT3 {α β γ : Type} (f : α → PyData) (g : β → PyData) (h : γ → PyData) (p : α × β × γ) : PyData := .tuple [f p.1, g p.2.1, h p.2.2]
def encT4 {α β γ δ : Type} (f : α → PyData) (g : β → PyData) (h : γ → PyData) (i : δ → PyData) (p : α × β × γ × δ) : PyData := .tuple [f p.1, g p.2.1, h p.2.2.1, i p.2.2.2]
structure EncOk {α : Type} [DecidableEq α] (n : Nat) (f : α → PyData) : Prop where
  lay : ∀ x, PyData.canLay0 (f x) = true
  dep : ∀ x, PyData.depth (f x) ≤ n
  eqv : ∀ x y, PyData.eqv (f x) (f y) = decide (x = y)
theorem encOk_int : EncOk 0 PyData.int := ⟨fun _ => by simp [PyData.canLay0], fun _ => by simp [PyData.depth], fun x y => by simp [PyData.eqv]; by_cases h : x = y <;> simp [h]⟩
theorem encOk_bool : EncOk 0 PyData.bool := ⟨fun _ => by simp [PyData.canLay0], fun _ => by simp [PyData.depth], fun x y => by cases x <;> cases y <;> simp [PyData.eqv]⟩
section
variable {α β γ δ : Type} [DecidableEq α] [DecidableEq β] [DecidableEq γ] [DecidableEq δ] {n m l o : Nat} {f : α → PyData} {g : β → PyData} {h : γ → PyData} {i : δ → PyData}
theorem lay_map (ok : EncOk n f) : ∀ xs : List α, PyData.canLayAll0 (xs.map f) = true
  | [] => by simp [PyData.canLayAll0]
  | x :: xs => by simp [PyData.canLayAll0, ok.lay x, lay_map ok xs]
theorem dep_map (ok : EncOk n f) : ∀ xs : List α, PyData.depthAll (xs.map f) ≤ n
  | [] => by simp [PyData.depthAll]
  | x :: xs => by
    have h1 := ok.dep x
    have h2 := dep_map ok xs
    simp only [List.map_cons, PyData.depthAll]
    omega
theorem eqv_map (ok : EncOk n f) : ∀ xs ys : List α, PyData.eqvAll (xs.map f) (ys.map f) = decide (xs = ys)
  | [], [] => by simp [PyData.eqvAll]
  | [], y :: ys => by simp [PyData.eqvAll]
  | x :: xs, [] => by simp [PyData.eqvAll]
  | x :: xs, y :: ys => by
    have ih := eqv_map ok xs ys
    simp only [List.map_cons, PyData.eqvAll, ok.eqv, ih]
    by_cases h : x = y <;> by_cases h2 : xs = ys <;> simp [h, h2]
theorem encOk_L (ok : EncOk n f) : EncOk (n + 1) (encL f) := ⟨fun xs => by simp [encL, PyData.canLay0, lay_map ok], fun xs => by
  have := dep_map ok xs
  simp only [encL, PyData.depth]
  omega, fun xs ys => by simp only [encL, PyData.eqv]; exact eqv_map ok xs ys⟩
theorem encOk_T2 (ok : EncOk n f) (ok2 : EncOk m g) : EncOk (max n m + 1) (encT2 f g) := ⟨fun x => by simp [encT2, PyData.canLay0, PyData.canLayAll0, ok.lay, ok2.lay], fun x => by
  have h1 := ok.dep x.1
  have h2 := ok2.dep x.2
  simp only [encT2, PyData.depth, PyData.depthAll]
  omega, fun x y => by
  obtain ⟨a, b⟩ := x
  obtain ⟨c, d⟩ := y
  simp only [encT2, PyData.eqv, PyData.eqvAll, ok.eqv, ok2.eqv, Prod.mk.injEq]
  by_cases h1 : a = c <;> by_cases h2 : b = d <;> simp [h1, h2]⟩
theorem encOk_T3 (ok : EncOk n f) (ok2 : EncOk m g) (ok3 : EncOk l h) : EncOk (max n (max m l) + 1) (encT3 f g h) := ⟨fun x => by simp [encT3, PyData.canLay0, PyData.canLayAll0, ok.lay, ok2.lay, ok3.lay], fun x => by
  have h1 := ok.dep x.1
  have h2 := ok2.dep x.2.1
  have h3 := ok3.dep x.2.2
  simp only [encT3, PyData.depth, PyData.depthAll]
  omega, fun x y => by
  obtain ⟨a, b, e⟩ := x
  obtain ⟨c, d, e'⟩ := y
  simp only [encT3, PyData.eqv, PyData.eqvAll, ok.eqv, ok2.eqv, ok3.eqv, Prod.mk.injEq]
  by_cases h1 : a = c <;> by_cases h2 : b = d <;> by_cases h3 : e = e' <;> simp [h1, h2, h3]⟩
theorem encOk_T4 (ok : EncOk n f) (ok2 : EncOk m g) (ok3 : EncOk l h) (ok4 : EncOk o i) : EncOk (max n (max m (max l o)) + 1) (encT4 f g h i) := ⟨fun x => by simp [encT4, PyData.canLay0, PyData.canLayAll0, ok.lay, ok2.lay, ok3.lay, ok4.lay], fun x => by
  have h1 := ok.dep x.1
  have h2 := ok2.dep x.2.1
  have h3 := ok3.dep x.2.2.1
  have h4 := ok4.dep x.2.2.2
  simp only [encT4, PyData.depth, PyData.depthAll]
  omega, fun x y => by
  obtain ⟨a, b, e, u⟩ := x
  obtain ⟨c, d, e', u'⟩ := y
  simp only [encT4, PyData.eqv, PyData.eqvAll, ok.eqv, ok2.eqv, ok3.eqv, ok4.eqv, Prod.mk.injEq]
  by_cases h1 : a = c <;> by_cases h2 : b = d <;> by_cases h3 : e = e' <;> by_cases h4 : u = u' <;> simp [h1, h2, h3, h4]⟩
end
section
variable {X : Cx} {α : Type} [DecidableEq α] {n : Nat} {f : α → PyData}
def rEqT (f : α → PyData) : R2 := fun x y H Q => ∃ (a b : α), Rp H x (f a) ∧ Rp H y (f b) ∧ Q (.bl (decide (a = b))) H
def rNeT (f : α → PyData) : R2 := fun x y H Q => ∃ (a b : α), Rp H x (f a) ∧ Rp H y (f b) ∧ Q (.bl (!decide (a = b))) H
theorem shaped_of (ok : EncOk n f) (hn : n ≤ 64) (a : α) : SeqAt.shaped (f a) = true := by
  unfold SeqAt.shaped
  have h := ok.dep a
  rw [ok.lay]
  simp
  omega
theorem op_eqT (ok : EncOk n f) (hu : X.A.units + 64 < cLine) (hn : n ≤ 64 := by decide) : OpR X (compareOp .Eq) (rEqT f) := by
  intro pins s σ H x y v u Q I rx ry h
  obtain ⟨a, b, h1, h2, q⟩ := h
  exact op_eqD hu pins s σ H _ _ v u Q I rx ry ⟨_, _, h1.dp, h2.dp, shaped_of ok hn a, shaped_of ok hn b, by rw [ok.eqv]; exact q⟩
theorem op_neT (ok : EncOk n f) (hu : X.A.units + 64 < cLine) (hn : n ≤ 64 := by decide) : OpR X (compareOp .NotEq) (rNeT f) := by
  intro pins s σ H x y v u Q I rx ry h
  obtain ⟨a, b, h1, h2, q⟩ := h
  exact op_neD hu pins s σ H _ _ v u Q I rx ry ⟨_, _, h1.dp, h2.dp, shaped_of ok hn a, shaped_of ok hn b, by rw [ok.eqv]; exact q⟩
end
section
variable {H : Hp} {v : V} {α β γ δ : Type} {f : α → PyData} {g : β → PyData} {h : γ → PyData} {i : δ → PyData}
theorem rp_int {x : Int} (r : Rp H v (.int x)) : v = .int x := by cases r; rfl
theorem rp_bool {x : Bool} (r : Rp H v (.bool x)) : v = .bl x := by cases r; rfl
theorem rp_str {x : Str} (r : Rp H v (.str x)) : v = .str x := by cases r; rfl
theorem rp_list {xs : List α} (r : Rp H v (encL f xs)) : ∃ a vs, v = .ref a ∧ H a = some (.lst vs) ∧ RpAll H vs (xs.map f) := by
  unfold encL at r
  cases r with
  | lst h1 h2 => exact ⟨_, _, rfl, h1, h2⟩
theorem rpAll_ints : ∀ {vs : List V} {xs : List Int}, RpAll H vs (xs.map PyData.int) → vs = xs.map V.int
  | _, [], .nil => rfl
  | _, x :: xs, .cons r t => by rw [rp_int r, rpAll_ints t] <;> rfl
theorem rp_ints {xs : List Int} (r : Rp H v (encL PyData.int xs)) : ∃ a, v = .ref a ∧ H a = some (.lst (xs.map V.int)) := by
  obtain ⟨a, vs, e, h1, h2⟩ := rp_list r
  rw [rpAll_ints h2] at h1
  exact ⟨a, e, h1⟩
theorem rp_tup2 {x : α × β} (r : Rp H v (encT2 f g x)) : ∃ a v1 v2, v = .ref a ∧ H a = some (.tup [v1, v2]) ∧ Rp H v1 (f x.1) ∧ Rp H v2 (g x.2) := by
  unfold encT2 at r
  cases r with
  | tup h1 h2 =>
    cases h2 with
    | cons a b =>
      cases b with
      | cons b c =>
        cases c
        exact ⟨_, _, _, rfl, h1, a, b⟩
theorem rp_tup3 {x : α × β × γ} (r : Rp H v (encT3 f g h x)) : ∃ a v1 v2 v3, v = .ref a ∧ H a = some (.tup [v1, v2, v3]) ∧ Rp H v1 (f x.1) ∧ Rp H v2 (g x.2.1) ∧ Rp H v3 (h x.2.2) := by
  unfold encT3 at r
  cases r with
  | tup h1 h2 =>
    cases h2 with
    | cons a b =>
      cases b with
      | cons b c =>
        cases c with
        | cons c d =>
          cases d
          exact ⟨_, _, _, _, rfl, h1, a, b, c⟩
theorem rp_mk_list {a : Addr} {vs : List V} {xs : List α} (h1 : H a = some (.lst vs)) (h2 : RpAll H vs (xs.map f)) : Rp H (.ref a) (encL f xs) := .lst h1 h2
theorem rp_mk_ints {a : Addr} {xs : List Int} (h1 : H a = some (.lst (xs.map V.int))) : Rp H (.ref a) (encL PyData.int xs) := .lst h1 (RpAll.ints xs)
theorem rp_mk2 {a : Addr} {v1 v2 : V} {x : α} {y : β} (h1 : H a = some (.tup [v1, v2])) (r1 : Rp H v1 (f x)) (r2 : Rp H v2 (g y)) : Rp H (.ref a) (encT2 f g (x, y)) := .tup h1 (.cons r1 (.cons r2 .nil))
theorem rp_mk3 {a : Addr} {v1 v2 v3 : V} {x : α} {y : β} {z : γ} (h1 : H a = some (.tup [v1, v2, v3])) (r1 : Rp H v1 (f x)) (r2 : Rp H v2 (g y)) (r3 : Rp H v3 (h z)) : Rp H (.ref a) (encT3 f g h (x, y, z)) := .tup h1 (.cons r1 (.cons r2 (.cons r3 .nil)))
end

/-! ### the two heaps -/
def SameXs (L : List Addr) (H H' : Hp) : Prop := ∀ b o, H b = some o → b ∉ L → H' b = some o
theorem SameXs.of {H H' : Hp} {m : Addr} (x : SameX m H H') : SameXs [m] H H' := fun b o e n => x b o e (fun z => n (by rw [z]; exact List.mem_cons_self))
theorem ni1 {b m : Addr} (h : b ≠ m) : b ∉ [m] := by simpa using h
theorem ni2 {b m n : Addr} (h : b ≠ m) (h2 : b ≠ n) : b ∉ [m, n] := by simp [h, h2]
theorem ni3 {b m n o : Addr} (h : b ≠ m) (h2 : b ≠ n) (h3 : b ≠ o) : b ∉ [m, n, o] := by simp [h, h2, h3]
theorem ni4 {b m n o p : Addr} (h : b ≠ m) (h2 : b ≠ n) (h3 : b ≠ o) (h4 : b ≠ p) : b ∉ [m, n, o, p] := by simp [h, h2, h3, h4]
def hideL (L : List Addr) (H : Hp) : Hp := fun b => if b ∈ L then none else H b
theorem hideL_same (L : List Addr) (H : Hp) : Same (hideL L H) H := fun b o e => by
  unfold hideL at e
  split at e
  · cases e
  · exact e
theorem hideL_in {L : List Addr} {H : Hp} {b : Addr} (h : b ∈ L) : hideL L H b = none := if_pos h
theorem hideL_out {L : List Addr} {H : Hp} {b : Addr} (h : b ∉ L) : hideL L H b = H b := if_neg h
/-- M: owned from outside; H0, G0: at the entry; G: what stays as it is; O: what may change -/
structure Sep (M : List Addr) (H0 G0 G H : Hp) (O : List Addr) : Prop where
  base : SameXs M H0 H
  pm : ∀ a ∈ M, H a ≠ none
  sG : Same G H
  g0 : Same G0 G
  gn : ∀ b, H0 b ≠ none → G0 b = none → G b = none
  ow : ∀ a ∈ O, G a = none ∧ H a ≠ none ∧ (a ∈ M ∨ H0 a = none)
theorem all_nil {P : Addr → Prop} : ∀ x ∈ ([] : List Addr), P x := fun x h => by cases h
theorem all_cons {P : Addr → Prop} {a : Addr} {l : List Addr} (h : P a) (t : ∀ x ∈ l, P x) : ∀ x ∈ a :: l, P x := fun x hx => by
  cases hx with
  | head => exact h
  | tail _ hx => exact t x hx
theorem some_ne {H : Hp} {a : Addr} {o : HO} (h : H a = some o) : H a ≠ none := by
  rw [h]
  exact fun z => nomatch z
theorem same_ne {H H' : Hp} {a : Addr} (e : Same H H') (h : H a ≠ none) : H' a ≠ none := by
  cases q : H a with
  | none => exact absurd q h
  | some o => exact some_ne (e a o q)
section
variable {M : List Addr} {H0 G0 G H H' : Hp} {O : List Addr} {p m : Addr} {o : HO}
theorem Sep.start (M : List Addr) (H : Hp) (hM : ∀ a ∈ M, H a ≠ none) : Sep M H (hideL M H) (hideL M H) H M :=
  ⟨fun _ _ e _ => e, hM, hideL_same M H, Same.refl _, fun _ _ e => e, fun a ha => ⟨hideL_in ha, hM a ha, .inl ha⟩⟩
theorem Sep.startG {G H : Hp} (e : Same G H) : Sep [] H G G H [] := ⟨fun _ _ e _ => e, all_nil, e, Same.refl _, fun _ _ e => e, fun a ha => by cases ha⟩
theorem Sep.start0 (H : Hp) : Sep [] H H H H [] := Sep.startG (Same.refl H)
theorem Sep.b0 (S : Sep [] H0 G0 G H O) : Same H0 H := fun b o e => S.base b o e List.not_mem_nil
theorem Sep.free (S : Sep M H0 G0 G H O) {q : Addr} (n : H q = none) : H0 q = none := by
  cases e : H0 q with
  | none => rfl
  | some o =>
    by_cases h : q ∈ M
    · exact absurd n (S.pm q h)
    · rw [S.base q o e h] at n
      cases n
theorem Sep.same (S : Sep M H0 G0 G H O) (e : Same H H') : Sep M H0 G0 G H' O :=
  ⟨fun b o h n => e b o (S.base b o h n), fun a ha => same_ne e (S.pm a ha), S.sG.trans e, S.g0, S.gn, fun a ha => ⟨(S.ow a ha).1, same_ne e (S.ow a ha).2.1, (S.ow a ha).2.2⟩⟩
theorem Sep.gfree (S : Sep M H0 G0 G H O) {q : Addr} (n : H q = none) : G q = none := by
  cases e : G q with
  | none => rfl
  | some o => rw [S.sG q o e] at n; cases n
theorem Sep.new (S : Sep M H0 G0 G H O) (n : H p = none) (e : Same H H') (h : H' p = some o) (hm : H0 p = none) : Sep M H0 G0 G H' (p :: O) := by
  have S1 := S.same e
  refine ⟨S1.base, S1.pm, S1.sG, S1.g0, S1.gn, fun a ha => ?_⟩
  cases ha with
  | head => exact ⟨S.gfree n, some_ne h, .inr hm⟩
  | tail _ ha => exact S1.ow a ha
theorem Sep.grow (S : Sep M H0 G0 G H O) (n : H p = none) (e : Same H H') (h : H' p = some o) (hm : H0 p = none) : ∃ G', Same G G' ∧ G' p = some o ∧ Sep M H0 G0 G' H' O := by
  have S1 := S.same e
  have ng := S.gfree n
  refine ⟨upd G p o, fun b u q => by rw [upd_ne (ne_of_none q ng)]; exact q, upd_same, S1.base, S1.pm, fun b u q => ?_, fun b u q => ?_, fun b hb gb => ?_, fun a ha => ?_⟩
  · by_cases z : b = p
    · subst z
      rw [upd_same] at q
      exact q ▸ h
    · rw [upd_ne z] at q
      exact S1.sG b u q
  · have := S.g0 b u q
    rw [upd_ne (ne_of_none this ng)]
    exact this
  · by_cases z : b = p
    · subst z
      exact absurd hm hb
    · rw [upd_ne z]
      exact S.gn b hb gb
  · have hne : a ≠ p := fun z => (S.ow a ha).2.1 (by rw [z]; exact n)
    rw [upd_ne hne]
    exact S1.ow a ha
theorem Sep.mut (S : Sep M H0 G0 G H O) {L : List Addr} (x : SameXs L H H') (hL : ∀ a ∈ L, a ∈ O) (hs : ∀ a ∈ L, H' a ≠ none) : Sep M H0 G0 G H' O := by
  have keep : ∀ a, H a ≠ none → H' a ≠ none := fun a h => by
    by_cases hb : a ∈ L
    · exact hs a hb
    · cases q : H a with
      | none => exact absurd q h
      | some o => exact some_ne (x a o q hb)
  refine ⟨fun b o e n => ?_, fun a ha => keep a (S.pm a ha), fun b o e => ?_, S.g0, S.gn, fun a ha => ⟨(S.ow a ha).1, keep a (S.ow a ha).2.1, (S.ow a ha).2.2⟩⟩
  · refine x b o (S.base b o e n) fun hb => ?_
    rcases (S.ow b (hL b hb)).2.2 with z | z
    · exact n z
    · rw [e] at z; cases z
  · refine x b o (S.sG b o e) fun hb => ?_
    have := (S.ow b (hL b hb)).1
    rw [e] at this
    cases this
theorem Sep.mut1 (S : Sep M H0 G0 G H O) (x : SameX m H H') (hm : m ∈ O) (h : H' m = some o) : Sep M H0 G0 G H' O :=
  S.mut (SameXs.of x) (all_cons hm all_nil) (all_cons (some_ne h) all_nil)
theorem Sep.sub (S : Sep M H0 G0 G H O) {O' : List Addr} (h : ∀ a ∈ O', a ∈ O) : Sep M H0 G0 G H O' := ⟨S.base, S.pm, S.sG, S.g0, S.gn, fun a ha => S.ow a (h a ha)⟩
/-- what was owned and is to stay as it is from now on -/
theorem Sep.freeze (S : Sep M H0 G0 G H O) {O' : List Addr} (hp : p ∈ O) (h : H p = some o) (hm : H0 p = none) (hO : ∀ a ∈ O', a ∈ O ∧ a ≠ p) : ∃ G', Same G G' ∧ G' p = some o ∧ Sep M H0 G0 G' H O' := by
  have ng := (S.ow p hp).1
  refine ⟨upd G p o, fun b u q => by rw [upd_ne (ne_of_none q ng)]; exact q, upd_same, S.base, S.pm, fun b u q => ?_, fun b u q => ?_, fun b hb gb => ?_, fun a ha => ?_⟩
  · by_cases z : b = p
    · subst z
      rw [upd_same] at q
      exact q ▸ h
    · rw [upd_ne z] at q
      exact S.sG b u q
  · have := S.g0 b u q
    rw [upd_ne (ne_of_none this ng)]
    exact this
  · by_cases z : b = p
    · subst z
      exact absurd hm hb
    · rw [upd_ne z]
      exact S.gn b hb gb
  · rw [upd_ne (hO a ha).2]
    exact S.ow a (hO a ha).1
/-- a callee that hands on data in a stable heap of its own -/
theorem Sep.step (S : Sep M H0 G0 G H O) {G' : Hp} (e : Same H H') (eG : Same G G') (sG : Same G' H') (hn : ∀ b, H b ≠ none → G b = none → G' b = none) : Sep M H0 G0 G' H' O := by
  have S1 := S.same e
  refine ⟨S1.base, S1.pm, sG, S.g0.trans eG, fun b hb gb => ?_, fun a ha => ⟨hn a (S.ow a ha).2.1 (S.ow a ha).1, (S1.ow a ha).2⟩⟩
  refine hn b (fun z => ?_) (S.gn b hb gb)
  exact hb (S.free z)
theorem Sep.hid (S : Sep M H0 G0 G H O) {L : List Addr} (h : ∀ a ∈ L, a ∈ O) : Same G (hideL L H) := fun b o e => by
  rw [hideL_out fun z => by
    have := (S.ow b (h b z)).1
    rw [e] at this
    cases this]
  exact S.sG b o e
end
end Vx

namespace Vx
open PySem PySem.Spec PyProof.Rows L2
/-! ### lists of plain things (f : V.int, V.bl, V.str) -/
section
variable {α : Type} {f : α → V} {H : Hp} {p : Addr}
theorem cat_map {xs ys : List α} (h : H p = some (.lst (xs.map f ++ ys.map f))) : H p = some (.lst ((xs ++ ys).map f)) := by
  rw [List.map_append]; exact h
theorem snoc_map {xs : List α} {y : α} (h : H p = some (.lst (xs.map f ++ [f y]))) : H p = some (.lst ((xs ++ [y]).map f)) := by
  rw [List.map_append]; exact h
def repL (xs : List α) (k : Int) : List α := (List.replicate k.toNat xs).flatten
theorem rep_map {xs : List α} {k : Int} (h : H p = some (.lst (List.replicate k.toNat (xs.map f)).flatten)) : H p = some (.lst ((repL xs k).map f)) := by
  rw [h]
  unfold repL
  rw [List.map_flatten, List.map_replicate]
def cutL (xs : List α) (lo hi : Option Int) : List α := (xs.drop (HT.sIx xs.length 0 lo)).take (HT.sIx xs.length xs.length hi - HT.sIx xs.length 0 lo)
theorem cut_map {xs : List α} {lo hi : Option Int} (h : H p = some (.lst (cutV (xs.map f) lo hi))) : H p = some (.lst ((cutL xs lo hi).map f)) := by
  rw [h]
  unfold cutV cutL
  rw [List.length_map, List.map_take, List.map_drop]
theorem cast_map {xs ys : List α} (h : H p = some (.lst (xs.map f))) (e : xs = ys) : H p = some (.lst (ys.map f)) := e ▸ h
theorem drop_map {xs : List α} (h : H p = some (.lst (xs.map f).dropLast)) : H p = some (.lst (xs.dropLast.map f)) := by
  rw [h, List.map_dropLast]
theorem ixN_some {n : Nat} {k : Int} (h : -(n : Int) ≤ k ∧ k < n) : ∃ j, ixN n k = some j ∧ j < n := by
  unfold ixN
  by_cases h0 : 0 ≤ k
  · exact ⟨k.toNat, by rw [if_pos h0, if_pos h.2], by omega⟩
  · exact ⟨(k + n).toNat, by rw [if_neg h0, if_pos h.1], by omega⟩
def itD [Inhabited α] (xs : List α) (k : Int) : α := (atI xs k).getD default
theorem atI_map [Inhabited α] {xs : List α} {k : Int} (h : -(xs.length : Int) ≤ k ∧ k < xs.length) : atI (xs.map f) k = some (f (itD xs k)) := by
  obtain ⟨j, e, hj⟩ := ixN_some h
  unfold itD atI
  rw [List.length_map, e]
  show (xs.map f)[j]? = some (f ((xs[j]?).getD default))
  rw [List.getElem?_map, List.getElem?_eq_getElem hj] <;> rfl
def setL (xs : List α) (k : Int) (y : α) : List α := xs.set ((ixN xs.length k).getD 0) y
theorem ixN_map {xs : List α} {k : Int} (h : -(xs.length : Int) ≤ k ∧ k < xs.length) : ixN (xs.map f).length k = some ((ixN xs.length k).getD 0) := by
  obtain ⟨j, e, hj⟩ := ixN_some h
  rw [List.length_map, e] <;> rfl
theorem set_map {xs : List α} {k : Int} {y : α} (h : H p = some (.lst ((xs.map f).set ((ixN xs.length k).getD 0) (f y)))) : H p = some (.lst ((setL xs k y).map f)) := by
  rw [h]
  unfold setL
  rw [List.map_set]
def lastD [Inhabited α] (xs : List α) : α := xs.getLastD default
theorem pop_map [Inhabited α] {xs : List α} (h : xs ≠ []) : (xs.map f)[(xs.map f).length - 1]? = some (f (lastD xs)) := by
  rw [← List.getLast?_eq_getElem?, List.getLast?_map]
  unfold lastD
  cases e : xs.getLast? with
  | none => exact absurd (List.getLast?_eq_none_iff.mp e) h
  | some y =>
    rw [List.getLastD_eq_getLast?, e] <;> rfl
end
/-! ### lists of data -/
section
variable {α β : Type} {f : α → PyData} {g : β → PyData} {G : Hp} {vs ws : List V} {xs ys : List α}
theorem app_map (a : RpAll G vs (xs.map f)) (b : RpAll G ws (ys.map f)) : RpAll G (vs ++ ws) ((xs ++ ys).map f) := by
  rw [List.map_append]; exact a.append b
theorem one_map {v : V} {y : α} (a : RpAll G vs (xs.map f)) (b : Rp G v (f y)) : RpAll G (vs ++ [v]) ((xs ++ [y]).map f) := by
  rw [List.map_append]; exact a.append (.one b)
theorem rep_all (k : Int) (a : RpAll G vs (xs.map f)) : RpAll G (List.replicate k.toNat vs).flatten ((repL xs k).map f) := by
  unfold repL
  rw [List.map_flatten, List.map_replicate]
  exact a.rep _
theorem cut_all (lo hi : Option Int) (a : RpAll G vs (xs.map f)) : RpAll G (cutV vs lo hi) ((cutL xs lo hi).map f) := by
  unfold cutV cutL
  rw [a.len, List.length_map, List.map_take, List.map_drop]
  exact (a.drop _).take _
theorem rp_cast {v : V} {d e : PyData} (r : Rp G v d) (h : d = e) : Rp G v e := h ▸ r
theorem comp_listD {i : Nat} {x : α} {y : β} {v : V} {h : α → β} (hi : xs[i]? = some x) (a : RpAll G vs (((xs.take i).map h).map g)) (r : Rp G v (g y)) (e : h x = y) : RpAll G (vs ++ [v]) (((xs.take (i + 1)).map h).map g) := by
  rw [take_succ_get hi, List.map_append, List.map_append]
  exact a.append (.one (e ▸ r))
theorem comp_rangeD {i : Nat} {y : β} {v : V} {h : Nat → β} (a : RpAll G vs (((List.range i).map h).map g)) (r : Rp G v (g y)) (e : h i = y) : RpAll G (vs ++ [v]) (((List.range (i + 1)).map h).map g) := by
  rw [List.range_succ, List.map_append, List.map_append]
  exact a.append (.one (e ▸ r))
theorem comp_doneD {n : Nat} {h : List α → List β} (hl : n = xs.length) (a : RpAll G vs ((h (xs.take n)).map g)) : RpAll G vs ((h xs).map g) := by
  rw [hl, List.take_length] at a
  exact a
theorem comp_listFD {i : Nat} {x : α} {y : β} {v : V} {h : α → β} {q : α → Bool} (hi : xs[i]? = some x) (hq : q x = true) (a : RpAll G vs ((((xs.take i).filter q).map h).map g)) (r : Rp G v (g y)) (e : h x = y) : RpAll G (vs ++ [v]) ((((xs.take (i + 1)).filter q).map h).map g) := by
  rw [take_succ_get hi, List.filter_append, List.filter_cons, if_pos hq, List.map_append, List.map_append]
  exact a.append (.one (e ▸ r))
theorem skip_listD {i : Nat} {x : α} {h : α → β} {q : α → Bool} (hi : xs[i]? = some x) (hq : q x = false) (a : RpAll G vs ((((xs.take i).filter q).map h).map g)) : RpAll G vs ((((xs.take (i + 1)).filter q).map h).map g) := by
  rw [take_succ_get hi, List.filter_append, List.filter_cons, if_neg (by rw [hq]; decide), List.filter_nil, List.append_nil]
  exact a
end
section
variable {α β : Type} {f : β → V} {H : Hp} {D : Addr} {xs : List α}
theorem compM_list {i : Nat} {x : α} {y : β} {h : α → β} (hi : xs[i]? = some x) (a : H D = some (.lst (((xs.take i).map h).map f ++ [f y]))) (e : h x = y) : H D = some (.lst (((xs.take (i + 1)).map h).map f)) := by
  rw [a, ← e, take_succ_get hi, List.map_append, List.map_append] <;> rfl
theorem compM_range {i : Nat} {y : β} {h : Nat → β} (a : H D = some (.lst (((List.range i).map h).map f ++ [f y]))) (e : h i = y) : H D = some (.lst (((List.range (i + 1)).map h).map f)) := by
  rw [a, ← e, List.range_succ, List.map_append, List.map_append] <;> rfl
theorem compM_done {n : Nat} {h : List α → List β} (hl : n = xs.length) (a : H D = some (.lst ((h (xs.take n)).map f))) : H D = some (.lst ((h xs).map f)) := by
  rw [hl, List.take_length] at a
  exact a
theorem compM_listF {i : Nat} {x : α} {y : β} {h : α → β} {q : α → Bool} (hi : xs[i]? = some x) (hq : q x = true) (a : H D = some (.lst ((((xs.take i).filter q).map h).map f ++ [f y]))) (e : h x = y) : H D = some (.lst ((((xs.take (i + 1)).filter q).map h).map f)) := by
  rw [a, ← e, take_succ_get hi, List.filter_append, List.filter_cons, if_pos hq, List.map_append, List.map_append] <;> rfl
theorem skipM_list {i : Nat} {x : α} {h : α → β} {q : α → Bool} (hi : xs[i]? = some x) (hq : q x = false) (a : H D = some (.lst ((((xs.take i).filter q).map h).map f))) : H D = some (.lst ((((xs.take (i + 1)).filter q).map h).map f)) := by
  rw [a, take_succ_get hi, List.filter_append, List.filter_cons, if_neg (by rw [hq]; decide), List.filter_nil, List.append_nil]
theorem compM_rangeF {i : Nat} {y : β} {h : Nat → β} {q : Nat → Bool} (hq : q i = true) (a : H D = some (.lst ((((List.range i).filter q).map h).map f ++ [f y]))) (e : h i = y) : H D = some (.lst ((((List.range (i + 1)).filter q).map h).map f)) := by
  rw [a, ← e, List.range_succ, List.filter_append, List.filter_cons, if_pos hq, List.map_append, List.map_append] <;> rfl
theorem skipM_range {i : Nat} {h : Nat → β} {q : Nat → Bool} (hq : q i = false) (a : H D = some (.lst ((((List.range i).filter q).map h).map f))) : H D = some (.lst ((((List.range (i + 1)).filter q).map h).map f)) := by
  rw [a, List.range_succ, List.filter_append, List.filter_cons, if_neg (by rw [hq]; decide), List.filter_nil, List.append_nil]
end
/-! ### more rules -/
section
variable {X : Cx} {K : PySem.W.Frag}
theorem ix_tupK (hK : X.K = K := by rfl) : IxR X (rIxT K) := hK ▸ ix_tup
def rLenLK (K : PySem.W.Frag) : List V → Hp → VK → Prop := fun xs H Q => ∃ (p : Addr) (vs : List V) (n : Nat), xs = [.ref p] ∧ SqL K H p vs ∧ vs.length = n ∧ Q (.int (n : Int)) H
theorem call_lenLK (hK : X.K = K := by rfl) : CallR X (.builtin "len") (rLenLK K) := by
  subst hK
  intro pins s σ H xs us Q I r h
  obtain ⟨p, vs, n, rfl, hs, hn, q⟩ := h
  exact call_len_seq pins s σ H _ us Q I r ⟨p, _, rfl, Or.inl hs, by rw [hn]; exact q⟩
def rListLK (K : PySem.W.Frag) : List V → Hp → VK → Prop := fun xs H Q => ∃ (p : Addr) (vs : List V), xs = [.ref p] ∧ SqL K H p vs ∧ ∀ l, H l = none → Q (.ref l) (upd H l (.lst vs))
theorem call_listLK (hK : X.K = K := by rfl) : CallR X (.type "list") (rListLK K) := by
  subst hK
  intro pins s σ H xs us Q I r h
  obtain ⟨p, vs, rfl, hs, q⟩ := h
  exact call_list_of pins s σ H _ us Q I r ⟨p, _, rfl, Or.inl hs, q⟩
theorem cr_anyK (hc : X.calm = true) (hK : X.K = K := by rfl) : CallR X (.builtin "any") (rAny K) := hK ▸ cr_any hc
theorem cr_allK (hc : X.calm = true) (hK : X.K = K := by rfl) : CallR X (.builtin "all") (rAll K) := hK ▸ cr_all hc
theorem pi_tupK {tg l : Expr} {tl : TE} (hl : PE X l tl) (hK : X.K = K := by rfl) : PI X tg l (iTup K tl) := hK ▸ pi_tup hl
theorem pip {op : Operator} {r : R2} (h : OpR X (inplaceOp op) r) : PIp X op r := fun pins s σ H x y v u Q I rx ry q => h pins s σ H x y v u Q I rx ry q
/-- an item at a place from 0 on, by itself (ahead of o[i] op= e) -/
def rIxP (K : PySem.W.Frag) : R2 := fun x y H Q => ∃ (p : Addr) (xs : List V) (k : Int) (v : V), x = .ref p ∧ y = .int k ∧ SqL K H p xs ∧ 0 ≤ k ∧ k < 2 ^ 62 ∧ atI xs k = some v ∧ Q v H
theorem pget_list (hK : X.K = K := by rfl) : PGet X (rIxP K) := by
  subst hK
  intro pins s σ H o i ov iv Q I ro ri h
  obtain ⟨p, xs, k, v, rfl, rfl, hq, h0, h62, ha, q⟩ := h
  cases ro
  obtain ⟨t, rfl⟩ := ri
  obtain ⟨its, r, pl, hz⟩ := I.list hq
  obtain ⟨j, h1, h2, h3, h4, h5⟩ := atI_get ha
  obtain ⟨w, ew, rw'⟩ := r.get h2
  have hj : k.toNat = j := by
    rw [seqIndex_of h0 h5] at h1
    exact Option.some.inj h1
  exact getItem_listL pl.isList h0 (by omega) (by rw [hj]; simpa using ew) ⟨v, H, I, rw', q⟩
theorem tru_map {α : Type} [DecidableEq α] {f : α → V} {xs : List α} : (!decide (xs = [])) = !(xs.map f).isEmpty := by
  cases xs <;> simp
end
end Vx

namespace Vx
open PySem PySem.Spec PyProof.Rows L2
/-! ### objects -/
section
variable {M : List Addr} {H0 G0 G H H' : Hp} {O : List Addr} {p m : Addr} {o : HO}
theorem gen_obj {x dx : Addr} {o1 o2 : HO} (nx : H x = none) (nd : H dx = none) (ne : dx ≠ x) (h : upd (upd H dx o1) x o2 = H') : Same H H' ∧ H' x = some o2 := by
  subst h
  exact ⟨fun b u e => by rw [upd_ne (ne_of_none e nx), upd_ne (ne_of_none e nd)]; exact e, upd_same⟩
theorem sameX_of {m : Addr} (x : SameXs [m] H H') : SameX m H H' := fun b o e n => x b o e (by simpa using n)
theorem g_ne {a b : Addr} (h : G a = some o) (S : Sep M H0 G0 G H O) (hb : b ∈ O) : a ≠ b := fun z => by
  have := (S.ow b hb).1
  rw [← z, h] at this
  cases this
/-- an object whose making has laid some lists -/
theorem Sep.mutnew (S : Sep M H0 G0 G H O) {L : List Addr} (x : SameXs L H H') (hL : ∀ a ∈ L, a ∈ O) (hs : ∀ a ∈ L, H' a ≠ none) (hn : H p = none) (hp : H' p ≠ none) (h0 : H0 p = none) : Sep M H0 G0 G H' (p :: O) := by
  have S1 := S.mut x hL hs
  refine ⟨S1.base, S1.pm, S1.sG, S1.g0, S1.gn, all_cons ⟨S.gfree hn, hp, .inr h0⟩ S1.ow⟩
theorem Sep.init (S : Sep M H0 G0 G H O) (x : SameX m H H') (hm : m ∈ O) (h : H' m = some o) (L : List Addr) (hL : ∀ a ∈ L, H a = none ∧ H' a ≠ none ∧ H0 a = none) : Sep M H0 G0 G H' (L ++ O) := by
  have S1 := S.mut1 x hm h
  refine ⟨S1.base, S1.pm, S1.sG, S1.g0, S1.gn, fun a ha => ?_⟩
  rcases List.mem_append.mp ha with z | z
  · obtain ⟨h1, h2, h3⟩ := hL a z
    exact ⟨S.gfree h1, h2, .inr h3⟩
  · exact S1.ow a z
end
section
variable {P : Program} {w : World} {K : PySem.W.Frag} {mg : Str → Option Value} {base : Heap}
structure MethIn (K : PySem.W.Frag) (C : Addr) (q m : Str) (st : Stmt) (ps : List Str) : Prop where
  ex : ∃ (f : Addr) (fd : FuncData), Fun K m q st f fd ∧ Meth K C m f ∧ Binds K fd ps []
structure PropIn (K : PySem.W.Frag) (C : Addr) (q m : Str) (st : Stmt) (ps : List Str) : Prop where
  ex : ∃ (r f : Addr) (fd : FuncData), Fun K m q st f fd ∧ PropOf K C m r f ∧ Binds K fd ps []
structure InitIn (K : PySem.W.Frag) (mg : Str → Option Value) (C : Addr) (cn q : Str) (st : Stmt) (ps : List Str) : Prop where
  ex : ∃ (f : Addr) (fd : FuncData), Fun K "__init__" q st f fd ∧ Mk K C f ∧ mg cn = some (.ref C) ∧ Binds K fd ps []
structure MetC (P : Program) (w : World) (K : PySem.W.Frag) (mg : Str → Option Value) (base : Heap) (k : Nat) (C : Addr) (m : Str) (sp : Sp) : Prop where
  ex : ∃ (f : Addr) (fd : FuncData) (ps : List Str), Cls K C ∧ Meth K C m f ∧ FnOk P w K mg base CX0 k f fd ps sp ∧ Binds K fd ps []
structure PropC (P : Program) (w : World) (K : PySem.W.Frag) (mg : Str → Option Value) (base : Heap) (k : Nat) (C : Addr) (m : Str) (sp : Sp) : Prop where
  ex : ∃ (q f : Addr) (fd : FuncData) (ps : List Str), Cls K C ∧ PropOf K C m q f ∧ FnOk P w K mg base CX0 k f fd ps sp ∧ Binds K fd ps []
structure MakC (P : Program) (w : World) (K : PySem.W.Frag) (mg : Str → Option Value) (base : Heap) (k : Nat) (cn : Str) (C : Addr) (sp : Sp) : Prop where
  ex : ∃ (f : Addr) (fd : FuncData) (ps : List Str), Mk K C f ∧ FnOk P w K mg base CX0 k f fd ps sp ∧ mg cn = some (.ref C) ∧ Binds K fd ps []
abbrev Body (P : Program) (w : World) (K : PySem.W.Frag) (mg : Str → Option Value) (base : Heap) (x : Str) (st : Stmt) (N : List Str) (k : Nat) (sp : Sp) : Prop :=
  ∀ (f : Addr) (cdv : Value) (A : Around) (outer : List Env) (s : Shared) (H : Hp) (vs : List V) (Q : VK) (E : XK), Room k (A.deeper (envOfC x (defScope st) s.heap.objs.size f cdv)) → sp vs H Q E →
    ∃ t, PSs (cxOf CX0 P w K mg base N x (defScope st) f cdv A outer s H E).nox (defBody st) t ∧ t { nx := fun _ H' => Q .non H', rt := Q } (start N vs) H
theorem MethIn.ok {C : Addr} {q m : Str} {st : Stmt} {N ps : List Str} {k : Nat} {sp : Sp} (D : MethIn K C q m st ps) (c : Cls K C) (S : FnScope N ps (defScope st)) (len : ∀ vs H Q E, sp vs H Q E → vs.length = ps.length)
    (hbody : Body P w K mg base q st N k sp) : MetC P w K mg base (k + 1) C m sp := by
  obtain ⟨f, fd, F, me, b⟩ := D.ex
  exact ⟨f, fd, ps, c, me, F.ok S len (fun cdv A outer s H vs Q E hr h => hbody f cdv A outer s H vs Q E hr h), b⟩
theorem PropIn.ok {C : Addr} {q m : Str} {st : Stmt} {N ps : List Str} {k : Nat} {sp : Sp} (D : PropIn K C q m st ps) (c : Cls K C) (S : FnScope N ps (defScope st)) (len : ∀ vs H Q E, sp vs H Q E → vs.length = ps.length)
    (hbody : Body P w K mg base q st N k sp) : PropC P w K mg base (k + 1) C m sp := by
  obtain ⟨r, f, fd, F, me, b⟩ := D.ex
  exact ⟨r, f, fd, ps, c, me, F.ok S len (fun cdv A outer s H vs Q E hr h => hbody f cdv A outer s H vs Q E hr h), b⟩
theorem InitIn.ok {C : Addr} {cn q : Str} {st : Stmt} {N ps : List Str} {k : Nat} {sp : Sp} (D : InitIn K mg C cn q st ps) (S : FnScope N ps (defScope st)) (len : ∀ vs H Q E, sp vs H Q E → vs.length = ps.length)
    (hbody : Body P w K mg base q st N k sp) : MakC P w K mg base (k + 1) cn C sp := by
  obtain ⟨f, fd, F, me, hm, b⟩ := D.ex
  exact ⟨f, fd, ps, me, F.ok S len (fun cdv A outer s H vs Q E hr h => hbody f cdv A outer s H vs Q E hr h), hm, b⟩
end
section
variable {X : Cx} {k j : Nat} {C : Addr} {x m : Str} {sp : Sp} {p pos apos : Pos} {e o : Expr} {es : List Expr} {ta : TE} {t : TA}
theorem vx_call0 (c : Cal X.prog X.w X.K X.mg X.base k x sp) (hr : Room j X.A) (hk : k ≤ j) (hg : Gl X x) (hdb : (x == ("__debug__" : Str)) = false := by decide) : PE X (.Call (.Name x p) [] [] pos) (tCall sp [] E0 tNil) := by
  obtain ⟨f, fd, ps, F, hm, kp, b⟩ := c.ex
  exact pe_call0 F (hr.mono hk) hg hm kp b .nil pass0 hdb
theorem vx_make (c : MakC X.prog X.w X.K X.mg X.base k x C sp) (hr : Room j X.A) (hk : k + 1 ≤ j) (hg : Gl X x) (ha : PA X (e :: es) t)
    (hdb : (x == ("__debug__" : Str)) = false := by decide) (he : starEach (e :: es) X.env = (false, eval e X.env) :: starEach es X.env := by rfl) (hpl : (backTo pos (starEach es X.env)).any (·.1) = false := by rfl) :
    PE X (.Call (.Name x p) (e :: es) [] pos) (tMake C sp [] E0 t) := by
  obtain ⟨f, fd, ps, M, F, hm, b⟩ := c.ex
  exact pe_make M F (hr.mono hk) hg hm b .nil pass0 ha hdb he hpl
theorem vx_make0 (c : MakC X.prog X.w X.K X.mg X.base k x C sp) (hr : Room j X.A) (hk : k + 1 ≤ j) (hg : Gl X x) (hdb : (x == ("__debug__" : Str)) = false := by decide) :
    PE X (.Call (.Name x p) [] [] pos) (tMake C sp [] E0 tNil) := by
  obtain ⟨f, fd, ps, M, F, hm, b⟩ := c.ex
  exact pe_make0 M F (hr.mono hk) hg hm b .nil pass0 hdb
theorem vx_meth {pl : Sem Bool} (c : MetC X.prog X.w X.K X.mg X.base k C m sp) (hr : Room j X.A) (hk : k ≤ j) (he : PE X o ta) (ha : PA X (e :: es) t)
    (hst : starEach (e :: es) X.env = (false, eval e X.env) :: starEach es X.env := by rfl) (hpl : (backTo pos (starEach es X.env)).any (·.1) = false := by rfl)
    (ht : eval (.Call (.Attribute o m apos) (e :: es) [] pos) X.env = (do
      let ov ← eval o X.env
      standAt apos.atName
      let (f, first) ← holding [ov] (getMethod ov m pl)
      callWith pos f first (backTo pos (starEach (e :: es) X.env)) (backToKw pos (keywordEach [] X.env))) := by rfl) :
    PE X (.Call (.Attribute o m apos) (e :: es) [] pos) (tMeth C m sp [] E0 ta t) := by
  obtain ⟨f, fd, ps, hc, hm, F, b⟩ := c.ex
  exact pe_meth he hc hm F (hr.mono hk) b .nil pass0 ha hst hpl ht
theorem vx_meth0 {pl : Sem Bool} (c : MetC X.prog X.w X.K X.mg X.base k C m sp) (hr : Room j X.A) (hk : k ≤ j) (he : PE X o ta)
    (ht : eval (.Call (.Attribute o m apos) [] [] pos) X.env = (do
      let ov ← eval o X.env
      standAt apos.atName
      let (f, first) ← holding [ov] (getMethod ov m pl)
      callWith pos f first (backTo pos (starEach [] X.env)) (backToKw pos (keywordEach [] X.env))) := by rfl) :
    PE X (.Call (.Attribute o m apos) [] [] pos) (tMeth C m sp [] E0 ta tNil) := by
  obtain ⟨f, fd, ps, hc, hm, F, b⟩ := c.ex
  exact pe_meth0 he hc hm F (hr.mono hk) b .nil pass0 ht
theorem vx_prop (c : PropC X.prog X.w X.K X.mg X.base k C m sp) (hr : Room j X.A) (hk : k + 1 ≤ j) (he : PE X o ta) (hab : attributeBase o m X.env (eval o X.env) = eval o X.env) : PE X (.Attribute o m pos) (tProp C sp [] E0 ta) := by
  obtain ⟨q, f, fd, ps, hc, hp, F, b⟩ := c.ex
  exact pe_prop he hc hp F (hr.mono hk) b .nil pass0 hab
end
theorem iteBNT {b : Bool} {A B : Prop} (h : b = false) (k : A) : if (!b) = true then A else B := by rw [h]; exact iteT k
theorem iteNN {b : Bool} {A B : Prop} (h : if b = true then A else B) : if (!!b) = true then A else B := by rw [Bool.not_not]; exact h
theorem iteBNF {b : Bool} {A B : Prop} (h : b = true) (k : B) : if (!b) = true then A else B := by rw [h]; exact iteF k
theorem shl_side {i j : Int} (h0 : 0 ≤ j) (h1 : j ≤ 4096) (h2 : -(2 ^ 4096) < i) (h3 : i < 2 ^ 4096) : CShl i j := by
  obtain ⟨k, rfl⟩ := Int.eq_ofNat_of_zero_le h0
  exact shl_ok (n := 4096) (by omega) (by omega)
end Vx

namespace Vx
open PySem PySem.Spec PyProof.Rows L2
section
variable {X : Cx} {K : PySem.W.Frag}
theorem fldK {e : Expr} {f : Str} {pos : Pos} {ta : TE} (he : PE X e ta) (hb : attributeBase e f X.env (eval e X.env) = eval e X.env := by rfl) (hK : X.K = K := by rfl) : PE X (.Attribute e f pos) (tFld K ta f) := hK ▸ pe_fld he hb
theorem pg_tupK {es : List Expr} {k : Nat} {t : TGs} {n : Nat} {pos : Pos} (h : PGs X es t) (hc : X.calm = true := by rfl)
    (hn : (assignEach es X.env).length = n := by rfl) (hst : (assignEach es X.env).findIdx? (·.1) = none := by rfl) (hK : X.K = K := by rfl) : PG X (.Tuple es k pos) (gTup K n t) := hK ▸ pg_tup hc h hn hst
end
end Vx

namespace Vx
open PySem PySem.Spec PyProof.Rows L2
section
variable {α β : Type} {f : α → PyData} {g : β → PyData} {fv : α → V} {gv : β → V} {G : Hp} {vs ws : List V} {xs : List α} {ys : List β}
theorem big1 {n : Nat} (h : n ≤ 1000000) : n ≤ sizeLine := smallE h
theorem cat_len (a : RpAll G vs (xs.map f)) (b : RpAll G ws (ys.map g)) (h : xs.length + ys.length ≤ 1000000) : vs.length + ws.length ≤ sizeLine := by
  rw [a.len, b.len, List.length_map, List.length_map]; exact smallE h
theorem cat_lenM (h : xs.length + ys.length ≤ 1000000) : (xs.map fv).length + (ys.map gv).length ≤ sizeLine := by
  rw [List.length_map, List.length_map]; exact smallE h
theorem rep_len {k : Nat} (a : RpAll G vs (xs.map f)) (h : xs.length * k ≤ 1000000) : vs.length * k ≤ sizeLine := by
  rw [a.len, List.length_map]; exact smallE h
theorem rep_lenM {k : Nat} (h : xs.length * k ≤ 1000000) : (xs.map fv).length * k ≤ sizeLine := by
  rw [List.length_map]; exact smallE h
theorem app_len (a : RpAll G vs (xs.map f)) (h : xs.length ≤ 1000000) : vs.length < sizeLine := by
  rw [a.len, List.length_map]; exact small h
theorem app_lenM (h : xs.length ≤ 1000000) : (xs.map fv).length < sizeLine := by
  rw [List.length_map]; exact small h
theorem cutL_len {α : Type} (xs : List α) (lo hi : Option Int) : (cutL xs lo hi).length ≤ xs.length := by
  unfold cutL
  rw [List.length_take, List.length_drop]
  omega
theorem repL_len {α : Type} (xs : List α) (k : Int) : (repL xs k).length = k.toNat * xs.length := by
  unfold repL
  simp
end
end Vx
/-! # promises of defs that know that nothing is being shown (so that repr may be called) -/
namespace Vx
open PySem PySem.Spec PyProof.Rows L2
structure RoomG (k : Nat) (A : Around) : Prop extends Room k A where
  gd : A.guards = some []
theorem RoomG.low {j k : Nat} {A : Around} (r : RoomG k A) (h : j ≤ k) : RoomG j A := ⟨r.toRoom.mono h, r.gd⟩
theorem RoomG.one {k : Nat} {A : Around} (r : RoomG (k + 1) A) : RoomG k A.in1 := ⟨r.toRoom.in1, r.gd⟩
theorem make_gd {A : Around} (C : Addr) (us : List Value) (kw : List (Str × Value)) (h : A.guards = some []) : (A.under (.builtin "type.__call__" ⟨.ref C :: us, kw⟩)).guards = some [] := by
  obtain ⟨hd, d, fr, gs, u⟩ := A
  subst h
  simp [Around.under, Code.guards, Code.isGuard, guardIds, pushGuards]
theorem RoomG.made {k : Nat} {A : Around} (r : RoomG (k + 1) A) (C : Addr) (us : List Value) (kw : List (Str × Value)) : RoomG k (A.under (.builtin "type.__call__" ⟨.ref C :: us, kw⟩)) := ⟨r.toRoom.make C us kw, make_gd C us kw r.gd⟩
structure FnG (P : Program) (w : World) (K : PySem.W.Frag) (mg : Str → Option Value) (base : Heap) (cx : CXT) (k : Nat) (f : Addr) (fd : FuncData) (ps : List Str) (sp : Sp) : Prop where
  len : ∀ vs H Q E, sp vs H Q E → vs.length = ps.length
  run : ∀ (A : Around) (outer : List Env) (s : Shared) (H : Hp) (args : Args) (us : List Value) (vs : List V) (Q : VK) (E : XK), RoomG k A → Env0 P w K mg base A outer s H → BindsTo s fd args (ps.zip us) → Vals vs us → sp vs H Q E → codeAny (model P w) A (.call (.ref f) args) (CR cx outer P w H s Q E) s
section
variable {P : Program} {w : World} {K : PySem.W.Frag} {mg : Str → Option Value} {base : Heap} {cx : CXT} {j k : Nat} {f : Addr} {fd : FuncData} {ps : List Str} {sp sp' : Sp}
theorem FnG.imp (F : FnG P w K mg base cx k f fd ps sp) (h : ∀ vs H Q E, sp' vs H Q E → sp vs H Q E) : FnG P w K mg base cx k f fd ps sp' := ⟨fun vs H Q E q => F.len vs H Q E (h vs H Q E q), fun A o s H a us vs Q E r e b v q => F.run A o s H a us vs Q E r e b v (h vs H Q E q)⟩
/-- the body's promise is the def's -/
theorem FnG.body {x qual : Str} {params : Arguments} {body : List Stmt} {scope : Scope} {dvs : List V} {kws : List (Str × V)} {N : List Str} (F : FunD K x qual params body scope dvs kws f fd) (S : FnScope N ps scope) (len : ∀ vs H Q E, sp vs H Q E → vs.length = ps.length)
    (hb : ∀ (cdv : Value) (A : Around) (outer : List Env) (s : Shared) (H : Hp) (vs : List V) (Q : VK) (E : XK), RoomG k (A.deeper (envOfC qual scope s.heap.objs.size f cdv)) → sp vs H Q E →
      ∃ t, PSs (cxOf cx P w K mg base N qual scope f cdv A outer s H E) body t ∧ t { nx := fun _ H' => Q .non H', rt := Q } (start N vs) H) : FnG P w K mg base cx (k + 1) f fd ps sp := by
  obtain ⟨oc, od, dV, kV, doc, pm, an, cdv, ct, osl, rfl, lk, code, _, _⟩ := F.ex
  constructor
  · exact len
  · intro A outer s H args us vs Q E room env binds vals prom
    have nvs := len vs H Q E prom
    have kin : K.In s.heap := env.mod.kin.keeps fun b o q => (env.bs b o q).1
    have nolim : s.heap.NoLimit := env.mod.nolimit.keeps fun b o q => (env.bs b o q).1
    have kinds : ∀ q ∈ ps.zip us, scope.names.lookup q.1 = some .local ∨ (scope.names.lookup q.1 = some .cell ∧ ((cellsFrom (s.heap.objs.size + 1) scope.names []).lookup q.1).isSome = true) := by
      rintro ⟨n, v⟩ hq
      cases S.par n (List.of_mem_zip hq).1 with
      | inl z => exact .inl z
      | inr z => exact .inr ⟨z, PySem.W.cellsFrom_some _ _ _ (.inl z)⟩
    refine codeAny_call_function room.toRoom.depth (kin _ _ lk) rfl S.co S.gen rfl (PySem.W.codeRec_of kin code) (binds _ _ _ _ ?_)
    refine wpAny_newFunctionEnv_cells S.kind kinds ?_
    rintro _ rfl s1 made
    refine ⟨nolim.keeps made.toInCall.keep, codeAny_func ?_⟩
    obtain ⟨t, pss, start_⟩ := hb cdv A outer s H vs Q E ⟨room.toRoom.deeper _, room.gd⟩ prom
    have inv := inv_start (CX := cx) (E := E) S room.hd env nvs vals made
    have close : ∀ {τ : L2.St} {H2 : Hp} {v : V} {u : Value} {s2 : Shared}, Inv (cxOf cx P w K mg base N qual scope f cdv A outer s H E) [] τ H2 s2 → RelV v u → Q v H2 → CE outer P w H s Q u s2 := fun inv2 rel q => ⟨_, _, inv2.os, inv2.bare, inv2.base, inv2.hok, rel, q⟩
    refine wpAny_mono (pss.run [] s1 (start N vs) H _ inv start_) ?_ fun _ _ z => z
    intro flow s2 out
    cases flow with
    | next =>
      obtain ⟨τ, H2, inv2, q⟩ := out
      exact close (v := .non) (u := .none) inv2 rfl q
    | ret u =>
      obtain ⟨v, τ, H2, inv2, rel, q⟩ := out
      exact close inv2 rel q
    | brk =>
      obtain ⟨_, _, _, q⟩ := out
      exact q.elim
    | cont =>
      obtain ⟨_, _, _, q⟩ := out
      exact q.elim
/-- the same of a body that nothing leaves -/
theorem FnG.bodyN {x qual : Str} {params : Arguments} {body : List Stmt} {scope : Scope} {dvs : List V} {kws : List (Str × V)} {N : List Str} (F : FunD K x qual params body scope dvs kws f fd) (S : FnScope N ps scope) (len : ∀ vs H Q E, sp vs H Q E → vs.length = ps.length)
    (hb : ∀ (cdv : Value) (A : Around) (outer : List Env) (s : Shared) (H : Hp) (vs : List V) (Q : VK) (E : XK), RoomG k (A.deeper (envOfC qual scope s.heap.objs.size f cdv)) → sp vs H Q E →
      ∃ t, PSs (cxOf CX0 P w K mg base N qual scope f cdv A outer s H E).nox body t ∧ t { nx := fun _ H' => Q .non H', rt := Q } (start N vs) H) : FnG P w K mg base CX0 (k + 1) f fd ps sp :=
  FnG.body F S len fun cdv A outer s H vs Q E r p => by
    obtain ⟨t, h, q⟩ := hb cdv A outer s H vs Q E r p
    exact ⟨t, h.nox, q⟩
end
/-- where a law's call begins: an abstract heap that tells the script at most -/
theorem law_start {P : Program} {w : World} {K : PySem.W.Frag} {mg mb : Str → Option Value} {a : Addr} {s : Shared} {vs : List Value} {ns : List Int} (kin : K.In s.heap) (top : s.heap.Ns mainGlobals mg) (blt : s.heap.Ns builtinsNs mb) (boot : ∀ y : Str, y ≠ "__name__" → mb y = bootBuiltins y)
    (lim : s.heap.NoLimit) (gens : s.gens = #[]) (script : s.heap.get? a = some { cls := .type "list", data := .seq vs.toArray }) (whole : IntsAre vs ns) (short : ns.length ≤ sizeLine) :
    ∃ (H : Hp) (base : Heap), SqL K H a (ns.map V.int) ∧ K.In base ∧ base.Ns mainGlobals mg ∧ Env0 P w K mg base callerA [] s H ∧
      ∀ (Z : V → Prop) (u : Value) (s2 : Shared), CE [] P w H s (fun v _ => Z v) u s2 → (∃ v, RelV v u ∧ Z v) ∧ OldK s.heap s2.heap ∧ s2.os = s.os ∧ AllBare s2.gens := by
  have rel := vals_ints whole
  have lenV := whole.length
  -- any H that tells no more than the script, and that only where the written part does not hold it, will do
  have fits : ∀ H : Hp, (∀ b, H b = none ∨ ∃ o xs, H b = some (.frz o (.lst xs))) → SqL K H a (ns.map V.int) → HOk P w H s.heap → (∀ b, b ≠ a → H b = none) → (∀ o, K.lookup a = some o → H a = none) →
      ∃ (H : Hp) (base : Heap), SqL K H a (ns.map V.int) ∧ K.In base ∧ base.Ns mainGlobals mg ∧ Env0 P w K mg base callerA [] s H ∧
        ∀ (Z : V → Prop) (u : Value) (s2 : Shared), CE [] P w H s (fun v _ => Z v) u s2 → (∃ v, RelV v u ∧ Z v) ∧ OldK s.heap s2.heap ∧ s2.os = s.os ∧ AllBare s2.gens := by
    intro H only seq ok else_ apart
    have dictFree : ∀ (b : Addr) (o : Obj) (es : Array DictEntry) (n : Nat), s.heap.get? b = some o → o.data = .dict es n → H b = none := by
      intro b o es n e d
      by_cases z : b = a
      · subst z
        rw [script] at e
        injection e with e
        subst e
        cases d
      · exact else_ b z
    have nsOf : ∀ {b : Addr} {m : Str → Option Value}, s.heap.Ns b m → (hidT s.heap H).Ns b m := by
      rintro b m ⟨o, es, n, e, d, r⟩
      exact ⟨o, es, n, hidT_get e (dictFree b o es n e d), d, r⟩
    have kinB : K.In (hidT s.heap H) := by
      intro b o e
      refine hidT_get (kin b o e) ?_
      by_cases z : b = a
      · subst z
        exact apart o e
      · exact else_ b z
    obtain ⟨mc, lim1, lim2⟩ := lim
    refine ⟨H, hidT s.heap H, seq, kinB, nsOf top, ⟨rfl, ⟨kinB, nsOf top, ⟨mb, nsOf blt, boot⟩, mc, nsOf lim1, lim2⟩, fun b o e => of_hidT e, Nat.le_of_eq (hidT_size _ _), trivial, fun b hb => (nomatch (show b ∈ ([] : List Addr) from hb)), ok, .of_eq gens⟩, ?_⟩
    rintro Z u s2 ⟨v, H2, os, bare, un, ok2, r, z⟩
    refine ⟨⟨v, r, z⟩, OldK.of_keep fun b o e => ?_, os, bare⟩
    rcases only b with n | ⟨o1, xs, n⟩
    · exact un.keep b o e n (fun y => nomatch (show b ∈ ([] : List Addr) from y)) (fun y => nomatch y)
    · obtain ⟨e1, _⟩ := ok b _ n
      obtain ⟨e2, _⟩ := ok2 b _ (un.frzs b o1 _ n)
      rw [e] at e1
      injection e1 with e1
      subst e1
      exact e2
  cases kl : K.lookup a with
  | some o =>
    have e := kin a o kl
    rw [script] at e
    injection e with e
    subst e
    exact fits (fun _ => none) (fun _ => .inl rfl) (.inr ⟨_, vs.toArray, _, kl, rfl, rfl, rfl, by rw [List.size_toArray, lenV]; exact short, by simpa using rel⟩) (fun _ _ z => nomatch z) (fun _ _ => rfl) fun _ _ => rfl
  | none =>
    refine fits (fun b => if b = a then some (.frz { cls := .type "list", data := .seq vs.toArray } (.lst (ns.map V.int))) else none) ?_ (.inl (.inr ⟨_, if_pos rfl⟩)) ?_ (fun b n => if_neg n) fun o z => ?_
    · intro b
      by_cases z : b = a
      · exact .inr ⟨_, _, if_pos z⟩
      · exact .inl (if_neg z)
    · intro b u q
      by_cases z : b = a
      · subst z
        have q := (if_pos rfl).symm.trans q
        injection q with q
        subst q
        exact ⟨script, by rw [List.length_map]; exact short, vs, _, rel, script⟩
      · have q := (if_neg z).symm.trans q
        cases q
    · rw [kl] at z
      cases z
/-- the goal that the head leaves, from the law's promise; the script's numbers have at most 2 ^ 20 bits -/
theorem walkG {l : PySem.W.OpenLaw} {n k : Nat} {q : Program} {loose : List Str} {XP : (Str → Option Value) → Heap → Prop} {YP : World → Heap → Prop} {d : DefRec} {K : Params → PySem.W.Frag} {x : Str} (hn : l.most = some n) (hn2 : n ≤ sizeLine) (hdf : d.params.defaults = []) (room : Room k callerA)
    (hY : ∀ (w : World) (h : Heap), YP w h → (K w.params).In h)
    (F : ∀ (w : World) (mg : Str → Option Value) (fa : Addr) (h : Heap), (K w.params).In h → h.Ns mainGlobals mg → mg d.name = some (.ref fa) →
      ∃ fd : FuncData, (∀ (s : Shared) (u : Value), BindsTo s fd ⟨[u], []⟩ [(x, u)]) ∧ ∀ base : Heap, (K w.params).In base → base.Ns mainGlobals mg → FnG l.prog w (K w.params) mg base CX0 k fa fd [x] (fun vs H Q _ => ∃ (a : Addr) (ns : List Int), vs = [.ref a] ∧ SqL (K w.params) H a (ns.map V.int) ∧ ns.length ≤ n ∧ ∀ H', Q (.bl true) H')) :
    PySem.W.WalkO q loose XP YP l.row.toRowW d [] (fun f vs => PySem.call f vs) := by
  refine Att.attach_call hn hdf ?_
  intro w s₀ s₁ mg mb fa o pm cd doc a vs ns G Y _ _ _ hmg script whole short gens
  have kin := hY w _ Y
  obtain ⟨fd, bind, prom⟩ := F w mg fa _ kin G.T.g hmg
  obtain ⟨H, base, seq, kinB, nsB, env, fin⟩ := law_start (P := l.prog) (w := w) kin G.T.g G.T.b G.T.builtins G.T.nolimit gens script whole (Nat.le_trans short hn2)
  refine codeAny_mono ((prom base kinB nsB).run callerA [] s₁ H ⟨[.ref a], []⟩ [.ref a] [.ref a] (fun v _ => v = .bl true) (fun _ _ _ => False) ⟨room, rfl⟩ env (bind s₁ (.ref a)) (.cons rfl .nil) ⟨a, ns, rfl, seq, short, fun _ => rfl⟩) ?_
  intro r s2 out
  cases r with
  | error e => exact out.elim
  | ok flow =>
    cases flow with
    | ret u =>
      obtain ⟨⟨v, rv, z⟩, h1, h2, h3⟩ := fin (fun v => v = .bl true) u s2 out
      subst z
      obtain rfl : u = Value.bool true := rv
      exact ⟨rfl, h1, h2, h3⟩
    | next => exact out.elim
    | brk => exact out.elim
    | cont => exact out.elim
end Vx
/-! # third part: what a def computes, as a plain function with refusals -/
namespace Vx
open PySem PySem.Spec PyProof.Rows L2
inductive Rx (α : Type) where
  | ok (a : α)
  | er (e : Nat)
  | bad
def Rx.bind {α β : Type} (m : Rx α) (f : α → Rx β) : Rx β :=
  match m with
  | .ok a => f a
  | .er e => .er e
  | .bad => .bad
/-- what is wanted of an outcome -/
@[irreducible] def cW {α : Type} (m : Rx α) (K : α → Prop) (E : Nat → Prop) : Prop :=
  match m with
  | .ok a => K a
  | .er e => E e
  | .bad => False
def grd {α : Type} (p : Prop) [Decidable p] (m : Rx α) : Rx α := if p then m else .bad
/-- within a comprehension nothing may be raised -/
def noEr {α : Type} (m : Rx α) : Rx α :=
  match m with
  | .ok a => .ok a
  | _ => .bad
/-- what the clause does not name may not come -/
def tryR {α β : Type} (m : Rx α) (cs : List Nat) (f : α → Rx β) (h : Nat → Rx β) : Rx β :=
  match m with
  | .ok a => f a
  | .er e => if e ∈ cs then h e else .bad
  | .bad => .bad
def bnd {α β : Type} (a : α) (f : α → Rx β) : Rx β := f a
inductive Lp (σ ρ : Type) where
  | go (s : σ)
  | bk (s : σ)
  | rt (r : ρ)
def Lp.aft {σ ρ τ : Type} (l : Lp σ ρ) (kr : ρ → Rx τ) (k : σ → Rx τ) : Rx τ :=
  match l with
  | .go s => k s
  | .bk s => k s
  | .rt r => kr r
def forS {σ α : Type} : List α → σ → (σ → α → Rx σ) → Rx σ
  | [], s, _ => .ok s
  | x :: r, s, f => (f s x).bind fun s' => forS r s' f
def forR {σ α ρ : Type} : List α → σ → (σ → α → Rx (Lp σ ρ)) → Rx (Lp σ ρ)
  | [], s, _ => .ok (.go s)
  | x :: r, s, f => (f s x).bind fun l =>
    match l with
    | .go s' => forR r s' f
    | .bk s' => .ok (.go s')
    | .rt v => .ok (.rt v)
def whileR {σ ρ : Type} : Nat → σ → (σ → Rx (Lp σ ρ)) → Rx (Lp σ ρ)
  | 0, _, _ => .bad
  | n + 1, s, f => (f s).bind fun l =>
    match l with
    | .go s' => whileR n s' f
    | .bk s' => .ok (.go s')
    | .rt v => .ok (.rt v)
def mapA {α β : Type} : List α → List β → (α → Rx β) → Rx (List β)
  | [], acc, _ => .ok acc
  | x :: r, acc, f => grd (acc.length ≤ 1000000) ((f x).bind fun y => mapA r (acc ++ [y]) f)
def mapF {α β : Type} : List α → List β → (α → Rx (Option β)) → Rx (List β)
  | [], acc, _ => .ok acc
  | x :: r, acc, f => grd (acc.length ≤ 1000000) ((f x).bind fun y =>
    match y with
    | some z => mapF r (acc ++ [z]) f
    | none => mapF r acc f)
section
variable {α β γ σ ρ τ : Type} {K : α → Prop} {E : Nat → Prop}
theorem cW_ok {a : α} (h : cW (.ok a) K E) : K a := by
  unfold cW at h
  exact h
theorem cW_er {e : Nat} (h : cW (.er e : Rx α) K E) : E e := by
  unfold cW at h
  exact h
theorem cW_bad {C : Prop} (h : cW (.bad : Rx α) K E) : C := by
  unfold cW at h
  exact h.elim
theorem cW_mk {a : α} (h : K a) : cW (.ok a) K E := by
  unfold cW
  exact h
theorem cW_mkE {e : Nat} (h : E e) : cW (.er e : Rx α) K E := by
  unfold cW
  exact h
theorem cW_gen {m : Rx α} (h : cW m K E) : ∃ (K' : α → Prop) (E' : Nat → Prop), (∀ v, K' v → K v) ∧ (∀ e, E' e → E e) ∧ cW m K' E' := ⟨K, E, fun _ x => x, fun _ x => x, h⟩
theorem cW_grd {p : Prop} {dp : Decidable p} {m : Rx α} (h : cW (grd p m) K E) : p ∧ cW m K E := by
  unfold grd at h
  split at h
  · exact ⟨‹p›, h⟩
  · exact cW_bad h
theorem cW_pos {p : Prop} {dp : Decidable p} {a b : Rx α} (c : p) (h : cW (if p then a else b) K E) : cW a K E := by rwa [if_pos c] at h
theorem cW_neg {p : Prop} {dp : Decidable p} {a b : Rx α} (c : ¬ p) (h : cW (if p then a else b) K E) : cW b K E := by rwa [if_neg c] at h
theorem cW_call {m : Rx β} {f : β → Rx α} {K2 : β → Prop} {E2 : Nat → Prop} (h : cW (m.bind f) K E) (ho : ∀ v, cW (f v) K E → K2 v) (he : ∀ e, E e → E2 e) : cW m K2 E2 := by
  cases m with
  | ok a => exact cW_mk (ho a h)
  | er e => exact cW_mkE (he e (cW_er (α := α) h))
  | bad => exact cW_bad (α := α) h
theorem cW_push {m : Rx β} {f : β → Rx α} (h : cW (m.bind f) K E) : ∃ K2 : β → Prop, (∀ v, K2 v → cW (f v) K E) ∧ cW m K2 E := ⟨fun v => cW (f v) K E, fun _ x => x, cW_call h (fun _ x => x) fun _ x => x⟩
theorem cW_name {m : Rx α} (h : cW m K E) : ∃ K' : α → Prop, (∀ v, K' v → K v) ∧ cW m K' E := ⟨K, fun _ x => x, h⟩
theorem cW_noEr {m : Rx α} (h : cW (noEr m) K E) : cW m K (fun _ => False) := by
  cases m with
  | ok a => exact cW_mk (cW_ok (α := α) h)
  | er e => exact cW_bad (α := α) h
  | bad => exact cW_bad (α := α) h
theorem cW_try {m : Rx β} {cs : List Nat} {f : β → Rx α} {g : Nat → Rx α} {K2 : β → Prop} {E2 : Nat → Prop} (h : cW (tryR m cs f g) K E) (ho : ∀ v, cW (f v) K E → K2 v) (hc : ∀ e, e ∈ cs → cW (g e) K E → E2 e) : cW m K2 E2 := by
  cases m with
  | ok a => exact cW_mk (ho a h)
  | er e =>
    have h2 : cW (if e ∈ cs then g e else .bad) K E := h
    by_cases q : e ∈ cs
    · exact cW_mkE (hc e q (cW_pos q h2))
    · exact cW_bad (cW_neg q h2)
  | bad => exact cW_bad (α := α) h
theorem cW_bnd {a : β} {f : β → Rx α} (h : cW (bnd a f) K E) : cW (f a) K E := h
theorem cW_negB {b : Bool} {x y : Rx α} (c : b = false) (h : cW (if b = true then x else y) K E) : cW y K E := cW_neg (by rw [c]; decide) h
theorem cW_forS {xs : List β} {i : Nat} {x : β} {s : α} {f : α → β → Rx α} (hx : xs[i]? = some x) (h : cW (forS (xs.drop i) s f) K E) : cW (f s x) (fun s' => cW (forS (xs.drop (i + 1)) s' f) K E) E := by
  rw [List.drop_eq_getElem?_toList_append, hx] at h
  exact cW_call h (fun _ z => z) fun _ z => z
theorem cW_forS0 {xs : List β} {n : Nat} {s : α} {f : α → β → Rx α} (hn : n = xs.length) (h : cW (forS (xs.drop n) s f) K E) : K s := by
  subst hn
  rw [List.drop_length] at h
  exact cW_ok h
theorem cW_forR {K : Lp σ ρ → Prop} {xs : List β} {i : Nat} {x : β} {s : σ} {f : σ → β → Rx (Lp σ ρ)} (hx : xs[i]? = some x) (h : cW (forR (xs.drop i) s f) K E) :
    cW (f s x) (fun l => match l with | .go s' => cW (forR (xs.drop (i + 1)) s' f) K E | .bk s' => K (.go s') | .rt v => K (.rt v)) E := by
  rw [List.drop_eq_getElem?_toList_append, hx] at h
  refine cW_call h (fun l z => ?_) fun _ z => z
  cases l with
  | go s' => exact z
  | bk s' => exact cW_ok (K := K) (a := .go s') z
  | rt v => exact cW_ok (K := K) (a := .rt v) z
theorem cW_forR0 {K : Lp σ ρ → Prop} {xs : List β} {n : Nat} {s : σ} {f : σ → β → Rx (Lp σ ρ)} (hn : n = xs.length) (h : cW (forR (xs.drop n) s f) K E) : K (.go s) := by
  subst hn
  rw [List.drop_length] at h
  exact cW_ok h
theorem cW_whileR {K : Lp σ ρ → Prop} {m : Nat} {s : σ} {f : σ → Rx (Lp σ ρ)} (h : cW (whileR m s f) K E) :
    ∃ n, m = n + 1 ∧ cW (f s) (fun l => match l with | .go s' => cW (whileR n s' f) K E | .bk s' => K (.go s') | .rt v => K (.rt v)) E := by
  cases m with
  | zero => exact cW_bad h
  | succ n =>
    refine ⟨n, rfl, cW_call h (fun l z => ?_) fun _ z => z⟩
    cases l with
    | go s' => exact z
    | bk s' => exact cW_ok (K := K) (a := .go s') z
    | rt v => exact cW_ok (K := K) (a := .rt v) z
theorem cW_mapA {K : List α → Prop} {xs : List β} {acc : List α} {i : Nat} {x : β} {f : β → Rx α} (hx : xs[i]? = some x) (h : cW (mapA (xs.drop i) acc f) K E) :
    acc.length ≤ 1000000 ∧ cW (f x) (fun y => cW (mapA (xs.drop (i + 1)) (acc ++ [y]) f) K E) E := by
  rw [List.drop_eq_getElem?_toList_append, hx] at h
  obtain ⟨z, h⟩ := cW_grd h
  exact ⟨z, cW_call h (fun _ z => z) fun _ z => z⟩
theorem cW_mapA0 {K : List α → Prop} {xs : List β} {acc : List α} {n : Nat} {f : β → Rx α} (hn : n = xs.length) (h : cW (mapA (xs.drop n) acc f) K E) : K acc := by
  subst hn
  rw [List.drop_length] at h
  exact cW_ok h
theorem cW_mapF {K : List α → Prop} {xs : List β} {acc : List α} {i : Nat} {x : β} {f : β → Rx (Option α)} (hx : xs[i]? = some x) (h : cW (mapF (xs.drop i) acc f) K E) :
    acc.length ≤ 1000000 ∧ cW (f x) (fun y => match y with | some z => cW (mapF (xs.drop (i + 1)) (acc ++ [z]) f) K E | none => cW (mapF (xs.drop (i + 1)) acc f) K E) E := by
  rw [List.drop_eq_getElem?_toList_append, hx] at h
  obtain ⟨z, h⟩ := cW_grd h
  refine ⟨z, cW_call h (fun y z => ?_) fun _ z => z⟩
  cases y with
  | none => exact z
  | some w => exact z
theorem cW_mapF0 {K : List α → Prop} {xs : List β} {acc : List α} {n : Nat} {f : β → Rx (Option α)} (hn : n = xs.length) (h : cW (mapF (xs.drop n) acc f) K E) : K acc := by
  subst hn
  rw [List.drop_length] at h
  exact cW_ok h
end
/-- the numbers of a range -/
def rng (lo : Int) (n : Nat) : List Int := (List.range n).map fun (j : Nat) => lo + (j : Int)
theorem rng_get {lo : Int} {n i : Nat} (h : i < n) : (rng lo n)[i]? = some (lo + (i : Int)) := by
  unfold rng
  rw [List.getElem?_map, List.getElem?_range h] <;> rfl
theorem rng_len (lo : Int) (n : Nat) : (rng lo n).length = n := by
  unfold rng
  rw [List.length_map, List.length_range]

def rngD (lo : Int) (n : Nat) : List Int := (List.range n).map fun (j : Nat) => lo + (j : Int) * (-1)
theorem rngD_get {lo : Int} {n i : Nat} (h : i < n) : (rngD lo n)[i]? = some (lo + (i : Int) * (-1)) := by
  unfold rngD
  rw [List.getElem?_map, List.getElem?_range h] <;> rfl
theorem rngD_len (lo : Int) (n : Nat) : (rngD lo n).length = n := by
  unfold rngD
  rw [List.length_map, List.length_range]

/-! ### calls that may raise -/
/-- what a call with n values and keywords ks gives the parameters -/
structure Bnd (K : PySem.W.Frag) (fd : FuncData) (ps : List Str) (n : Nat) (ks : List Str) (g : List V → List V → List V) : Prop where
  to : ∀ (s : Shared) (us ws : List Value) (vs zs : List V), K.In s.heap → vs.length = n → zs.length = ks.length → Vals vs us → Vals zs ws → ∃ vv : List Value, BindsTo s fd ⟨us, ks.zip ws⟩ (ps.zip vv) ∧ Vals (g vs zs) vv
theorem Bnd.of_kbn {K : PySem.W.Frag} {fd : FuncData} {ps ks : List Str} {n : Nat} {g : List Value → List Value → List Value} {gV : List V → List V → List V} (b : KBn K fd ps n ks g gV) : Bnd K fd ps n ks gV :=
  ⟨fun s us ws vs zs X l1 l2 r rz => ⟨g us ws, b.to s us ws X (r.length.symm.trans l1) (rz.length.symm.trans l2), b.rel r rz⟩⟩
theorem Bnd.all {K : PySem.W.Frag} {fd : FuncData} {ps ks : List Str} {n : Nat} {g : List V → List V → List V} (h : ∀ (us ws : List Value) (vs zs : List V), vs.length = n → zs.length = ks.length → Vals vs us → Vals zs ws →
    ∃ vv : List Value, bindArgs fd ⟨us, ks.zip ws⟩ = pure (ps.zip vv) ∧ Vals (g vs zs) vv) : Bnd K fd ps n ks g :=
  ⟨fun s us ws vs zs _ l1 l2 r rz => by
    obtain ⟨vv, e, q⟩ := h us ws vs zs l1 l2 r rz
    exact ⟨vv, BindsTo.of_eq e, q⟩⟩
abbrev Pat := Nat × List Str × (List V → List V → List V)
def Bnd1 (K : PySem.W.Frag) (fd : FuncData) (ps : List Str) (p : Pat) : Prop := Bnd K fd ps p.1 p.2.1 p.2.2
section
variable {P : Program} {w : World} {K : PySem.W.Frag} {mg : Str → Option Value} {base : Heap}
/-- a def of the top, with the ways it is called -/
structure DefX (K : PySem.W.Frag) (mg : Str → Option Value) (x : Str) (st : Stmt) (ps : List Str) (pats : List Pat) : Prop where
  ex : ∃ (f : Addr) (fd : FuncData) (dvs : List V) (kws : List (Str × V)), FunD K x x (defArgs st) (defBody st) (defScope st) dvs kws f fd ∧ mg x = some (.ref f) ∧ ∀ p ∈ pats, Bnd1 K fd ps p
structure CalX (P : Program) (w : World) (K : PySem.W.Frag) (mg : Str → Option Value) (base : Heap) (k : Nat) (x : Str) (sp : Sp) (pats : List Pat) : Prop where
  ex : ∃ (f : Addr) (fd : FuncData) (ps : List Str), FnG P w K mg base (L2.CX P w) k f fd ps sp ∧ mg x = some (.ref f) ∧ PySem.W.keepIn K (.ref f) = true ∧ ∀ p ∈ pats, Bnd1 K fd ps p
abbrev BodyX (P : Program) (w : World) (K : PySem.W.Frag) (mg : Str → Option Value) (base : Heap) (x : Str) (st : Stmt) (N : List Str) (k : Nat) (sp : Sp) : Prop :=
  ∀ (f : Addr) (cdv : Value) (A : Around) (outer : List Env) (s : Shared) (H : Hp) (vs : List V) (Q : VK) (E : XK), RoomG k (A.deeper (envOfC x (defScope st) s.heap.objs.size f cdv)) → sp vs H Q E →
    ∃ t, PSs (cxOf (L2.CX P w) P w K mg base N x (defScope st) f cdv A outer s H E) (defBody st) t ∧ t { nx := fun _ H' => Q .non H', rt := Q } (start N vs) H
theorem DefX.ok {x : Str} {st : Stmt} {N ps : List Str} {pats : List Pat} {k : Nat} {sp : Sp} (D : DefX K mg x st ps pats) (S : FnScope N ps (defScope st)) (len : ∀ vs H Q E, sp vs H Q E → vs.length = ps.length)
    (hbody : BodyX P w K mg base x st N k sp) : CalX P w K mg base (k + 1) x sp pats := by
  obtain ⟨f, fd, dvs, kws, F, hm, b⟩ := D.ex
  exact ⟨f, fd, ps, FnG.body F S len (fun cdv A outer s H vs Q E hr h => hbody f cdv A outer s H vs Q E hr h), hm, F.kp, b⟩
end
section
variable {X : Cx} {k j n : Nat} {f : Addr} {fd : FuncData} {ps ks : List Str} {g : List V → List V → List V} {sp : Sp} {x : Str} {pos p : Pos} {e : Expr} {es : List Expr} {kws : List Keyword} {t tk : TA} {W : WX}
theorem run_X {pins : List (Addr × Obj)} {σ : L2.St} {H : Hp} {s : Shared} {Q : VK} {us ws : List Value} {vs zs : List V} (F : FnG X.prog X.w X.K X.mg X.base (L2.CX X.prog X.w) k f fd ps sp) (hr : RoomG k X.A) (hb : Bnd X.K fd ps n ks g) (tkW : Takes X W)
    (I : Inv X pins σ H s) (r : Vals vs us) (rz : Vals zs ws) (l1 : vs.length = n) (l2 : zs.length = ks.length) (h : sp (g vs zs) H Q (WE W σ)) :
    wpAny (model X.prog X.w) X.A (call (.ref f) us (ks.zip ws)) (EP X pins σ Q) X.xe s := by
  obtain ⟨vv, b, r2⟩ := hb.to s us ws vs zs I.kIn l1 l2 r rz
  refine wpAny_call (codeAny_mono (F.run X.A X.stack s H ⟨us, ks.zip ws⟩ vv (g vs zs) Q (WE W σ) hr I.env0 b r2 h) fun rr s' hq => ?_)
  cases rr with
  | error er => exact passAt tkW σ pins H s er s' I hq
  | ok fl =>
    cases fl with
    | ret u => exact I.after hq
    | next => exact hq.elim
    | brk => exact hq.elim
    | cont => exact hq.elim
/-- f(e, .., k = v, ..) -/
def tCallX (n m : Nat) (sp : Sp) (g : List V → List V → List V) (W : WX) (t tk : TA) : TE := fun σ H Q => t σ H fun vs H1 => tk σ H1 fun zs H2 => vs.length = n ∧ zs.length = m ∧ sp (g vs zs) H2 Q (WE W σ)
theorem vx_callX {pats : List Pat} (c : CalX X.prog X.w X.K X.mg X.base k x sp pats) (pt : Pat) (hpt : pt ∈ pats) (hr : RoomG j X.A) (hk : k ≤ j) (tkW : Takes X W) (hg : Gl X x) (ha : PA X (e :: es) t) (hkw : PK X kws tk)
    (hall : (backToKw pos (keywordEach kws X.env)).all (·.1.isSome) = true := by rfl) (hks : (backToKw pos (keywordEach kws X.env)).filterMap (·.1) = pt.2.1 := by rfl)
    (hdb : (x == ("__debug__" : Str)) = false := by decide) (he : starEach (e :: es) X.env = (false, eval e X.env) :: starEach es X.env := by rfl)
    (hpl : ((backTo pos (starEach (e :: es) X.env)).any (·.1) || (backToKw pos (keywordEach kws X.env)).any (·.1.isNone)) = false := by rfl) :
    PE X (.Call (.Name x p) (e :: es) kws pos) (tCallX pt.1 pt.2.1.length sp pt.2.2 W t tk) := by
  obtain ⟨f, fd, ps, F, hm, kp, b⟩ := c.ex
  refine ⟨fun pins s σ H Q I h => ?_⟩
  refine wpAny_Call_Name_kw (ld_glob I hg hm ?_ hdb)
  refine PySem.W.callWith_KW (h₀ := X.base) I.ok.mod.kin kp hall (thn (ha.run pos pins s σ H _ I h) fun us s1 ⟨vs, H1, I1, r, q⟩ => ?_) hpl he
  refine thn (hkw.run pos pins s1 σ H1 _ I1 q) fun ws s2 ⟨zs, H2, I2, rz, l1, l2, q2⟩ => ⟨I2.kIn, ?_⟩
  rw [hks]
  exact run_X F (hr.low hk) (b pt hpt) tkW I2 r rz l1 l2 q2
theorem vx_callX0 {pats : List Pat} (c : CalX X.prog X.w X.K X.mg X.base k x sp pats) (pt : Pat) (hpt : pt ∈ pats) (hr : RoomG j X.A) (hk : k ≤ j) (tkW : Takes X W) (hg : Gl X x) (hks : pt.2.1 = [] := by rfl)
    (hdb : (x == ("__debug__" : Str)) = false := by decide) : PE X (.Call (.Name x p) [] [] pos) (tCallX pt.1 pt.2.1.length sp pt.2.2 W tNil tNil) := by
  obtain ⟨f, fd, ps, F, hm, kp, b⟩ := c.ex
  refine ⟨fun pins s σ H Q I h => ?_⟩
  refine wpAny_Call_Name_kw (ld_glob I hg hm ?_ hdb)
  obtain ⟨l1, l2, q2⟩ := h
  have hz := run_X (us := []) (ws := []) F (hr.low hk) (b pt hpt) tkW I .nil .nil l1 l2 q2
  rw [hks] at hz
  exact PySem.W.callWith_K0 I.kIn kp hz
end
/-! ### borrowed things -/
theorem Sep.bM {M : List Addr} {H0 G0 G H : Hp} {O : List (Addr)} (S : Sep M H0 G0 G H O) : Same (hideL M H0) H := fun b o e => by
  by_cases h : b ∈ M
  · rw [hideL_in h] at e
    cases e
  · rw [hideL_out h] at e
    exact S.base b o e h
theorem b_ne {M : List Addr} {H0 G0 G H : Hp} {O : List Addr} {a b : Addr} {o : HO} (h : (hideL M H0) a = some o) (S : Sep M H0 G0 G H O) (hb : b ∈ O) : a ≠ b := fun z => by
  subst z
  rcases (S.ow a hb).2.2 with q | q
  · rw [hideL_in q] at h
    cases h
  · by_cases hM : a ∈ M
    · rw [hideL_in hM] at h
      cases h
    · rw [hideL_out hM, q] at h
      cases h
theorem hide0 {H : Hp} : hideL [] H = H := by
  funext b
  unfold hideL
  rw [if_neg List.not_mem_nil]
theorem hide_nil {H : Hp} {a : Addr} {o : HO} (h : H a = some o) : (hideL [] H) a = some o := by
  rw [hide0]
  exact h
theorem Rp.hide_nil {H : Hp} {v : V} {d : PyData} (h : Rp H v d) : Rp (hideL [] H) v d := by
  rw [hide0]
  exact h
theorem Sep.startM {M : List Addr} {G H : Hp} (e : Same G H) (hM : ∀ a ∈ M, H a ≠ none) (hG : ∀ a ∈ M, G a = none) : Sep M H G G H M :=
  ⟨fun _ _ e _ => e, hM, e, Same.refl _, fun _ _ e => e, fun a ha => ⟨hG a ha, hM a ha, .inl ha⟩⟩
theorem Sep.gno {M : List Addr} {H0 G0 G H : Hp} {O L : List Addr} (S : Sep M H0 G0 G H O) (h : ∀ a ∈ L, a ∈ O) : ∀ a ∈ L, G a = none := fun a ha => (S.ow a (h a ha)).1
theorem RpAll.ixD {α : Type} [Inhabited α] {f : α → PyData} {H : Hp} {vs : List V} {xs : List α} {k : Int} (r : RpAll H vs (xs.map f)) (h : -(xs.length : Int) ≤ k ∧ k < xs.length) : ∃ v, atI vs k = some v ∧ Rp H v (f (itD xs k)) := by
  obtain ⟨v, x, h1, h2, h3⟩ := RpAll.ix r h
  refine ⟨v, h1, ?_⟩
  unfold itD
  rw [h2]
  exact h3
theorem tru_all {α : Type} [DecidableEq α] {f : α → PyData} {H : Hp} {vs : List V} {xs : List α} (r : RpAll H vs (xs.map f)) : (!decide (xs = [])) = !vs.isEmpty := by
  have h := r.len
  rw [List.length_map] at h
  cases xs <;> cases vs <;> simp_all
theorem ix_nn {α : Type} {xs : List α} {k : Int} (h0 : 0 ≤ k) (h1 : k < xs.length) : -(xs.length : Int) ≤ k ∧ k < xs.length := ⟨by omega, h1⟩
theorem all_nilQ {α : Type} {P : α → Prop} : ∀ x ∈ ([] : List α), P x := fun x h => by cases h
theorem all_consQ {α : Type} {P : α → Prop} {a : α} {l : List α} (h : P a) (t : ∀ x ∈ l, P x) : ∀ x ∈ a :: l, P x := fun x hx => by
  rcases List.mem_cons.mp hx with rfl | hx
  · exact h
  · exact t x hx
theorem mem_one {a b : Nat} (h : a ∈ [b]) : a = b := by simpa using h
theorem mem_cons2 {a b : Nat} {l : List Nat} (h : a ∈ b :: l) : a = b ∨ a ∈ l := List.mem_cons.mp h
theorem len0 {α : Type} {l : List α} (h : l.length = 0) : l = [] := List.length_eq_zero_iff.mp h
theorem len1 {α : Type} {l : List α} (h : l.length = 1) : ∃ a, l = [a] := List.length_eq_one_iff.mp h
theorem len_s {α : Type} {l : List α} {n : Nat} (h : l.length = n + 1) : ∃ a r, l = a :: r ∧ r.length = n := by
  cases l with
  | nil => cases h
  | cons a r => exact ⟨a, r, rfl, Nat.succ.inj h⟩
theorem len2 {α : Type} {l : List α} (h : l.length = 2) : ∃ a b, l = [a, b] := by
  obtain ⟨a, r, rfl, h2⟩ := len_s h
  obtain ⟨b, rfl⟩ := len1 h2
  exact ⟨a, b, rfl⟩
theorem len3 {α : Type} {l : List α} (h : l.length = 3) : ∃ a b c, l = [a, b, c] := by
  obtain ⟨a, r, rfl, h2⟩ := len_s h
  obtain ⟨b, c, rfl⟩ := len2 h2
  exact ⟨a, b, c, rfl⟩
theorem len4 {α : Type} {l : List α} (h : l.length = 4) : ∃ a b c d, l = [a, b, c, d] := by
  obtain ⟨a, r, rfl, h2⟩ := len_s h
  obtain ⟨b, c, d, rfl⟩ := len3 h2
  exact ⟨a, b, c, d, rfl⟩
theorem len5 {α : Type} {l : List α} (h : l.length = 5) : ∃ a b c d e, l = [a, b, c, d, e] := by
  obtain ⟨a, r, rfl, h2⟩ := len_s h
  obtain ⟨b, c, d, e, rfl⟩ := len4 h2
  exact ⟨a, b, c, d, e, rfl⟩
theorem len6 {α : Type} {l : List α} (h : l.length = 6) : ∃ a b c d e f, l = [a, b, c, d, e, f] := by
  obtain ⟨a, r, rfl, h2⟩ := len_s h
  obtain ⟨b, c, d, e, f, rfl⟩ := len5 h2
  exact ⟨a, b, c, d, e, f, rfl⟩
theorem len7 {α : Type} {l : List α} (h : l.length = 7) : ∃ a b c d e f g, l = [a, b, c, d, e, f, g] := by
  obtain ⟨a, r, rfl, h2⟩ := len_s h
  obtain ⟨b, c, d, e, f, g, rfl⟩ := len6 h2
  exact ⟨a, b, c, d, e, f, g, rfl⟩
def rLenTK (K : PySem.W.Frag) : List V → Hp → VK → Prop := fun xs H Q => ∃ (p : Addr) (vs : List V) (n : Nat), xs = [.ref p] ∧ SqT K H p vs ∧ vs.length = n ∧ Q (.int (n : Int)) H
theorem call_lenTK {X : Cx} {K : PySem.W.Frag} (hK : X.K = K := by rfl) : CallR X (.builtin "len") (rLenTK K) := by
  subst hK
  intro pins s σ H xs us Q I r h
  obtain ⟨p, vs, n, rfl, hs, hn, q⟩ := h
  exact call_len_seq pins s σ H _ us Q I r ⟨p, _, rfl, Or.inr hs, by rw [hn]; exact q⟩
theorem exm_mk {K : PySem.W.Frag} {S C : Addr} (h1 : PySem.W.subIn K (.ref C) (.type "BaseException") = some true) (h2 : PySem.W.isClsIn K C = true) (h3 : PySem.W.typeIn K (.ref C) = some (.type "type")) (h4 : PySem.W.subIn K (.ref S) (.ref C) = some true) :
    PySem.W.exmOne K (.ref S) (.ref C) = some true := by
  unfold PySem.W.isClsIn at h2
  unfold PySem.W.exmOne
  unfold PySem.W.kitCls
  simp only [h1, h2, h3, h4, beq_self_eq_true, Bool.and_self, if_true]
theorem kit_mk {K : PySem.W.Frag} {S C : Addr} (h2 : PySem.W.isClsIn K C = true) (h3 : PySem.W.typeIn K (.ref C) = some (.type "type")) (h4 : PySem.W.subIn K (.ref S) (.ref C) = some true) :
    PySem.W.kitOne K (.ref S) (.ref C) = some true := by
  unfold PySem.W.isClsIn at h2
  unfold PySem.W.kitOne
  split
  · rfl
  · unfold PySem.W.kitCls
    simp only [h2, h3, h4, beq_self_eq_true, Bool.and_self, if_true]
/-- isinstance(e, C) of the exception in hand -/
def rIsX (K : PySem.W.Frag) (a : Addr) (cls : Value) (d : Option Addr) : List V → Hp → VK → Prop := fun xs H Q => ∃ (D C : Addr) (b : Bool), cls = .ref D ∧ d = none ∧ ExcC K D ∧ xs = [.ref a, .ref C] ∧ PySem.W.kitOne K (.ref D) (.ref C) = some b ∧ Q (.bl b) H
theorem call_isX {X : Cx} {K : PySem.W.Frag} {a : Addr} {cls : Value} {d : Option Addr} {oe : Obj} {pn : List (Addr × Obj)} (hz : Zc cls d oe) (hf : ∃ vs, oe.data = .fields vs) (hK : X.K = K := by rfl) : CallR (X.suite a ((a, oe) :: pn)) (.builtin "isinstance") (rIsX K a cls d) := by
  subst hK
  intro pins s σ H xs us Q I r h
  obtain ⟨D, C, b, rfl, rfl, c, rfl, e, q⟩ := h
  exact call_isE c hz hf pins s σ H _ us Q I r ⟨_, _, b, rfl, fun u z => z, e, q⟩
/-! ### unpacking a list -/
section
variable {X : Cx} {K : PySem.W.Frag} {pos : Pos}
theorem pg_seqK {es : List Expr} {k : Nat} {t : TGs} {n : Nat} (h : PGs X es t) (hc : X.calm = true := by rfl) (hK : X.K = K := by rfl)
    (hn : (assignEach es X.env).length = n := by rfl) (hst : (assignEach es X.env).findIdx? (·.1) = none := by rfl) : PG X (.Tuple es k pos) (gLst K n t) := hK ▸ pg_lst hc h hn hst
end
theorem SqL.cast {K : PySem.W.Frag} {H : Hp} {a : Addr} {xs ys : List V} (h : SqL K H a xs) (e : xs = ys) : SqL K H a ys := e ▸ h
section
variable {α : Type} [Inhabited α] {f : α → V}
theorem unp2 {xs : List α} (h : xs.length = 2) : xs.map f = [f (itD xs 0), f (itD xs 1)] := by
  obtain ⟨a, b, rfl⟩ := len2 h
  rfl
theorem unp3 {xs : List α} (h : xs.length = 3) : xs.map f = [f (itD xs 0), f (itD xs 1), f (itD xs 2)] := by
  obtain ⟨a, b, c, rfl⟩ := len3 h
  rfl
theorem unp4 {xs : List α} (h : xs.length = 4) : xs.map f = [f (itD xs 0), f (itD xs 1), f (itD xs 2), f (itD xs 3)] := by
  obtain ⟨a, b, c, d, rfl⟩ := len4 h
  rfl
theorem unp6 {xs : List α} (h : xs.length = 6) : xs.map f = [f (itD xs 0), f (itD xs 1), f (itD xs 2), f (itD xs 3), f (itD xs 4), f (itD xs 5)] := by
  obtain ⟨a, b, c, d, e, g, rfl⟩ := len6 h
  rfl
theorem unp8 {xs : List α} (h : xs.length = 8) : xs.map f = [f (itD xs 0), f (itD xs 1), f (itD xs 2), f (itD xs 3), f (itD xs 4), f (itD xs 5), f (itD xs 6), f (itD xs 7)] := by
  obtain ⟨a, r, rfl, h2⟩ := len_s h
  obtain ⟨b, c, d, e, g, i, j, rfl⟩ := len7 h2
  rfl
end
/-! ### classes -/
section
variable {P : Program} {w : World} {K : PySem.W.Frag} {mg : Str → Option Value} {base : Heap}
structure MethX (K : PySem.W.Frag) (C : Addr) (q m : Str) (st : Stmt) (ps : List Str) (pats : List Pat) : Prop where
  ex : ∃ (f : Addr) (fd : FuncData) (dvs : List V) (kws : List (Str × V)), FunD K m q (defArgs st) (defBody st) (defScope st) dvs kws f fd ∧ Meth K C m f ∧ ∀ p ∈ pats, Bnd1 K fd ps p
structure InitX (K : PySem.W.Frag) (mg : Str → Option Value) (C : Addr) (cn q : Str) (st : Stmt) (ps : List Str) (pats : List Pat) : Prop where
  ex : ∃ (f : Addr) (fd : FuncData) (dvs : List V) (kws : List (Str × V)), FunD K "__init__" q (defArgs st) (defBody st) (defScope st) dvs kws f fd ∧ Mk K C f ∧ mg cn = some (.ref C) ∧ ∀ p ∈ pats, Bnd1 K fd ps p
structure PropX (K : PySem.W.Frag) (C : Addr) (q m : Str) (st : Stmt) (ps : List Str) (pats : List Pat) : Prop where
  ex : ∃ (r f : Addr) (fd : FuncData) (dvs : List V) (kws : List (Str × V)), FunD K m q (defArgs st) (defBody st) (defScope st) dvs kws f fd ∧ PropOf K C m r f ∧ Binds K fd ps []
structure MetX (P : Program) (w : World) (K : PySem.W.Frag) (mg : Str → Option Value) (base : Heap) (k : Nat) (C : Addr) (m : Str) (sp : Sp) (pats : List Pat) : Prop where
  ex : ∃ (f : Addr) (fd : FuncData) (ps : List Str), Cls K C ∧ Meth K C m f ∧ FnG P w K mg base (L2.CX P w) k f fd ps sp ∧ ∀ p ∈ pats, Bnd1 K fd ps p
structure PropY (P : Program) (w : World) (K : PySem.W.Frag) (mg : Str → Option Value) (base : Heap) (k : Nat) (C : Addr) (m : Str) (sp : Sp) (pats : List Pat) : Prop where
  ex : ∃ (q f : Addr) (fd : FuncData) (ps : List Str), Cls K C ∧ PropOf K C m q f ∧ FnG P w K mg base (L2.CX P w) k f fd ps sp ∧ Binds K fd ps []
structure MakX (P : Program) (w : World) (K : PySem.W.Frag) (mg : Str → Option Value) (base : Heap) (k : Nat) (cn : Str) (C : Addr) (sp : Sp) (pats : List Pat) : Prop where
  ex : ∃ (f : Addr) (fd : FuncData) (ps : List Str), Mk K C f ∧ FnG P w K mg base (L2.CX P w) k f fd ps sp ∧ mg cn = some (.ref C) ∧ ∀ p ∈ pats, Bnd1 K fd ps p
theorem MethX.ok {C : Addr} {q m : Str} {st : Stmt} {N ps : List Str} {pats : List Pat} {k : Nat} {sp : Sp} (D : MethX K C q m st ps pats) (c : Cls K C) (S : FnScope N ps (defScope st)) (len : ∀ vs H Q E, sp vs H Q E → vs.length = ps.length)
    (hbody : BodyX P w K mg base q st N k sp) : MetX P w K mg base (k + 1) C m sp pats := by
  obtain ⟨f, fd, dvs, kws, F, me, b⟩ := D.ex
  exact ⟨f, fd, ps, c, me, FnG.body F S len (fun cdv A outer s H vs Q E hr h => hbody f cdv A outer s H vs Q E hr h), b⟩
theorem PropX.ok {C : Addr} {q m : Str} {st : Stmt} {N ps : List Str} {pats : List Pat} {k : Nat} {sp : Sp} (D : PropX K C q m st ps pats) (c : Cls K C) (S : FnScope N ps (defScope st)) (len : ∀ vs H Q E, sp vs H Q E → vs.length = ps.length)
    (hbody : BodyX P w K mg base q st N k sp) : PropY P w K mg base (k + 1) C m sp pats := by
  obtain ⟨r, f, fd, dvs, kws, F, me, b⟩ := D.ex
  exact ⟨r, f, fd, ps, c, me, FnG.body F S len (fun cdv A outer s H vs Q E hr h => hbody f cdv A outer s H vs Q E hr h), b⟩
theorem InitX.ok {C : Addr} {cn q : Str} {st : Stmt} {N ps : List Str} {pats : List Pat} {k : Nat} {sp : Sp} (D : InitX K mg C cn q st ps pats) (S : FnScope N ps (defScope st)) (len : ∀ vs H Q E, sp vs H Q E → vs.length = ps.length)
    (hbody : BodyX P w K mg base q st N k sp) : MakX P w K mg base (k + 1) cn C sp pats := by
  obtain ⟨f, fd, dvs, kws, F, me, hm, b⟩ := D.ex
  exact ⟨f, fd, ps, me, FnG.body F S len (fun cdv A outer s H vs Q E hr h => hbody f cdv A outer s H vs Q E hr h), hm, b⟩
end
theorem cW_callN {α β : Type} {m : Rx β} {f : β → Rx α} {K : α → Prop} {E : Nat → Prop} {K2 : β → Prop} {E2 : Nat → Prop} (h : cW ((noEr m).bind f) K E) (ho : ∀ v, cW (f v) K E → K2 v) (_ : True) : cW m K2 E2 := by
  cases m with
  | ok a => exact cW_mk (ho a h)
  | er e => exact cW_bad (α := α) h
  | bad => exact cW_bad (α := α) h
section
variable {X : Cx} {k j n : Nat} {f C : Addr} {fd : FuncData} {ps ks : List Str} {g : List V → List V → List V} {sp : Sp} {x m : Str} {pos p apos : Pos} {e o : Expr} {es : List Expr} {kws : List Keyword} {ta : TE} {t tk : TA} {W : WX}
theorem run_mkX {pins : List (Addr × Obj)} {σ : L2.St} {H : Hp} {s : Shared} {Q : VK} {us ws : List Value} {vs zs : List V} (M : Mk X.K C f) (F : FnG X.prog X.w X.K X.mg X.base (L2.CX X.prog X.w) k f fd ps sp) (hr : RoomG (k + 1) X.A) (hb : Bnd X.K fd ps n ks g) (tkW : Takes X W)
    (I : Inv X pins σ H s) (r : Vals vs us) (rz : Vals zs ws) (l1 : vs.length + 1 = n) (l2 : zs.length = ks.length)
    (h : ∀ x dx, H x = none → H dx = none → dx ≠ x → sp (g (.ref x :: vs) zs) (upd (upd H dx (.own x)) x (.ins C dx [])) (fun v H2 => v = .non ∧ Q (.ref x) H2) (WE W σ)) :
    wpAny (model X.prog X.w) X.A (call (.ref C) us (ks.zip ws)) (EP X pins σ Q) X.xe s := by
  have hq := h (s.heap.objs.size + 1) s.heap.objs.size (I.hok.fresh (Nat.le_succ _)) (I.hok.fresh (Nat.le_refl _)) (Nat.ne_of_lt (Nat.lt_succ_self _))
  have I2 := Inv.made (C := C) I
  have r1 : Vals (V.ref (s.heap.objs.size + 1) :: vs) (Value.ref (s.heap.objs.size + 1) :: us) := .cons rfl r
  obtain ⟨vv, b, r2⟩ := hb.to _ (Value.ref (s.heap.objs.size + 1) :: us) ws (V.ref (s.heap.objs.size + 1) :: vs) zs I2.kIn (by rw [List.length_cons, l1]) l2 r1 rz
  refine wpAny_call (make_map (f := f) I.kIn M.makes M.init (beq_iff_eq.mp M.fn) (codeAny_mono (F.run _ X.stack _ _ ⟨Value.ref (s.heap.objs.size + 1) :: us, ks.zip ws⟩ vv _ _ (WE W σ) (hr.made C us (ks.zip ws))
    (I2.env0.make C us (ks.zip ws)) b r2 hq) fun r s' hq' => ?_))
  cases r with
  | error e => exact passAt tkW σ pins _ _ e s' I2 hq'
  | ok fl =>
    cases fl with
    | ret u =>
      obtain ⟨v, H', I3, rv, ev, q3⟩ := I2.after hq'
      subst ev
      exact ⟨rv, ⟨V.ref (s.heap.objs.size + 1), H', I3, rfl, q3⟩⟩
    | next => exact False.elim hq'
    | brk => exact False.elim hq'
    | cont => exact False.elim hq'
/-- C(e, .., k = v, ..) -/
def tMakeX (C : Addr) (n m : Nat) (sp : Sp) (g : List V → List V → List V) (W : WX) (t tk : TA) : TE := fun σ H Q => t σ H fun vs H1 => tk σ H1 fun zs H2 => vs.length + 1 = n ∧ zs.length = m ∧ ∀ x dx, H2 x = none → H2 dx = none → dx ≠ x →
  sp (g (.ref x :: vs) zs) (upd (upd H2 dx (.own x)) x (.ins C dx [])) (fun v H3 => v = .non ∧ Q (.ref x) H3) (WE W σ)
theorem vx_makeX {pats : List Pat} (c : MakX X.prog X.w X.K X.mg X.base k x C sp pats) (pt : Pat) (hpt : pt ∈ pats) (hr : RoomG j X.A) (hk : k + 1 ≤ j) (tkW : Takes X W) (hg : Gl X x) (ha : PA X (e :: es) t) (hkw : PK X kws tk)
    (hall : (backToKw pos (keywordEach kws X.env)).all (·.1.isSome) = true := by rfl) (hks : (backToKw pos (keywordEach kws X.env)).filterMap (·.1) = pt.2.1 := by rfl) (hdb : (x == ("__debug__" : Str)) = false := by decide)
    (he : starEach (e :: es) X.env = (false, eval e X.env) :: starEach es X.env := by rfl) (hpl : ((backTo pos (starEach (e :: es) X.env)).any (·.1) || (backToKw pos (keywordEach kws X.env)).any (·.1.isNone)) = false := by rfl) :
    PE X (.Call (.Name x p) (e :: es) kws pos) (tMakeX C pt.1 pt.2.1.length sp pt.2.2 W t tk) := by
  obtain ⟨f, fd, ps, M, F, hm, b⟩ := c.ex
  refine ⟨fun pins s σ H Q I h => ?_⟩
  refine wpAny_Call_Name_kw (ld_glob I hg hm ?_ hdb)
  refine PySem.W.callWith_KW (h₀ := X.base) I.ok.mod.kin M.kp hall (thn (ha.run pos pins s σ H _ I h) fun us s1 ⟨vs, H1, I1, r, q⟩ => ?_) hpl he
  refine thn (hkw.run pos pins s1 σ H1 _ I1 q) fun ws s2 ⟨zs, H2, I2, rz, l1, l2, q2⟩ => ⟨I2.kIn, ?_⟩
  rw [hks]
  exact run_mkX M F (hr.low hk) (b pt hpt) tkW I2 r rz l1 l2 q2
theorem vx_makeX0 {pats : List Pat} (c : MakX X.prog X.w X.K X.mg X.base k x C sp pats) (pt : Pat) (hpt : pt ∈ pats) (hr : RoomG j X.A) (hk : k + 1 ≤ j) (tkW : Takes X W) (hg : Gl X x) (hks : pt.2.1 = [] := by rfl)
    (hdb : (x == ("__debug__" : Str)) = false := by decide) : PE X (.Call (.Name x p) [] [] pos) (tMakeX C pt.1 pt.2.1.length sp pt.2.2 W tNil tNil) := by
  obtain ⟨f, fd, ps, M, F, hm, b⟩ := c.ex
  refine ⟨fun pins s σ H Q I h => ?_⟩
  refine wpAny_Call_Name_kw (ld_glob I hg hm ?_ hdb)
  obtain ⟨l1, l2, q2⟩ := h
  have hz := run_mkX (us := []) (ws := []) M F (hr.low hk) (b pt hpt) tkW I .nil .nil l1 l2 q2
  rw [hks] at hz
  exact PySem.W.callWith_K0 I.kIn M.kp hz
/-- o.m(e, .., k = v, ..) -/
def tMethX (C : Addr) (m : Str) (n mm : Nat) (sp : Sp) (g : List V → List V → List V) (W : WX) (ta : TE) (t tk : TA) : TE := fun σ H Q => ta σ H fun x H1 => ∃ a dx fs, x = .ref a ∧ H1 a = some (.ins C dx fs) ∧ fs.lookup m = none ∧
  t σ H1 fun vs H2 => tk σ H2 fun zs H3 => (x :: vs).length = n ∧ zs.length = mm ∧ sp (g (x :: vs) zs) H3 Q (WE W σ)
theorem vx_methX {pats : List Pat} {pl : Sem Bool} (c : MetX X.prog X.w X.K X.mg X.base k C m sp pats) (pt : Pat) (hpt : pt ∈ pats) (hr : RoomG j X.A) (hk : k ≤ j) (tkW : Takes X W) (he : PE X o ta) (ha : PA X (e :: es) t) (hkw : PK X kws tk)
    (hall : (backToKw pos (keywordEach kws X.env)).all (·.1.isSome) = true := by rfl) (hks : (backToKw pos (keywordEach kws X.env)).filterMap (·.1) = pt.2.1 := by rfl)
    (hst : starEach (e :: es) X.env = (false, eval e X.env) :: starEach es X.env := by rfl) (hpl : ((backTo pos (starEach (e :: es) X.env)).any (·.1) || (backToKw pos (keywordEach kws X.env)).any (·.1.isNone)) = false := by rfl)
    (ht : eval (.Call (.Attribute o m apos) (e :: es) kws pos) X.env = (do
      let ov ← eval o X.env
      standAt apos.atName
      let (f, first) ← holding [ov] (getMethod ov m pl)
      callWith pos f first (backTo pos (starEach (e :: es) X.env)) (backToKw pos (keywordEach kws X.env))) := by rfl) :
    PE X (.Call (.Attribute o m apos) (e :: es) kws pos) (tMethX C m pt.1 pt.2.1.length sp pt.2.2 W ta t tk) := by
  obtain ⟨f, fd, ps, hc, hm, F, b⟩ := c.ex
  refine ⟨fun pins s σ H Q I h => ?_⟩
  refine PySem.W.methodCall_KW (pl := pl) (thn (he.run pins s σ H _ I h) fun u s1 ⟨x, H1, I1, rx, a, dx, fs, ex, ea, l, q⟩ => ?_) ht
  subst ex
  obtain rfl : u = Value.ref a := rx
  refine getmeth_ok I1 ea hc hm l ?_
  refine PySem.W.callWith_KW (first := [.ref a]) (h₀ := X.base) I.ok.mod.kin hm.kp hall (thn (ha.run pos pins s1 σ H1 _ I1 q) fun us s2 ⟨vs, H2, I2, r, q2⟩ => ?_) hpl hst
  refine thn (hkw.run pos pins s2 σ H2 _ I2 q2) fun ws s3 ⟨zs, H3, I3, rz, l1, l2, q3⟩ => ⟨I3.kIn, ?_⟩
  rw [hks]
  exact run_X (us := .ref a :: us) (vs := .ref a :: vs) F (hr.low hk) (b pt hpt) tkW I3 (.cons rfl r) rz l1 l2 q3
theorem vx_methX0 {pats : List Pat} {pl : Sem Bool} (c : MetX X.prog X.w X.K X.mg X.base k C m sp pats) (pt : Pat) (hpt : pt ∈ pats) (hr : RoomG j X.A) (hk : k ≤ j) (tkW : Takes X W) (he : PE X o ta) (hks : pt.2.1 = [] := by rfl)
    (ht : eval (.Call (.Attribute o m apos) [] [] pos) X.env = (do
      let ov ← eval o X.env
      standAt apos.atName
      let (f, first) ← holding [ov] (getMethod ov m pl)
      callWith pos f first (backTo pos (starEach [] X.env)) (backToKw pos (keywordEach [] X.env))) := by rfl) :
    PE X (.Call (.Attribute o m apos) [] [] pos) (tMethX C m pt.1 pt.2.1.length sp pt.2.2 W ta tNil tNil) := by
  obtain ⟨f, fd, ps, hc, hm, F, b⟩ := c.ex
  refine ⟨fun pins s σ H Q I h => ?_⟩
  refine PySem.W.methodCall_KW (pl := pl) (thn (he.run pins s σ H _ I h) fun u s1 ⟨x, H1, I1, rx, a, dx, fs, ex, ea, l, q⟩ => ?_) ht
  subst ex
  obtain rfl : u = Value.ref a := rx
  refine getmeth_ok I1 ea hc hm l ?_
  obtain ⟨l1, l2, q3⟩ := q
  have hz := run_X (us := [.ref a]) (vs := [.ref a]) (ws := []) F (hr.low hk) (b pt hpt) tkW I1 (.cons rfl .nil) .nil l1 l2 q3
  rw [hks] at hz
  exact PySem.W.callWith_K0 (first := [.ref a]) I1.kIn hm.kp hz
theorem vx_propX {pats : List Pat} (c : PropY X.prog X.w X.K X.mg X.base k C m sp pats) (hr : RoomG j X.A) (hk : k + 1 ≤ j) (he : PE X o ta) (hab : attributeBase o m X.env (eval o X.env) = eval o X.env := by rfl) : PE X (.Attribute o m pos) (tProp C sp [] E0 ta) := by
  obtain ⟨q, f, fd, ps, cls, prop, F, bind⟩ := c.ex
  constructor
  intro pins s σ H Q I h
  refine attr_of hab (thn (he.run pins s σ H _ I h) ?_)
  rintro u s1 ⟨x, H1, I1, rx, a, dx, fs, rfl, ea, prom⟩
  cases rx
  obtain ⟨mA, O, _⟩ := ins_get I1.hok ea
  obtain ⟨od, J, _⟩ := O.look
  obtain ⟨rest, rec_⟩ := prop.rec_
  have short : [Value.ref a].length = ps.length := (F.len _ _ _ _ prom).symm ▸ rfl
  have isCls : (PySem.W.clsIn X.K C).isSome = true := by
    obtain ⟨cd, e, _⟩ := PySem.W.any_some cls.hd
    rw [e]
    rfl
  refine PySem.W.get_bind I1.kIn J (PySem.W.plainGet_of (cls.get m)).1 (PySem.W.findObj_data isCls prop.at_ prop.get prop.tak) (PySem.W.plainGet_of (cls.get m)).2 (wpAny_call (PySem.W.prop_get (s := { s1 with toks := s1.toks + 1 }) I1.kIn rec_ ?_))
  have I2 := I1.tok (s1.toks + 1)
  refine codeAny_mono (F.run X.A.in1 X.stack _ H1 ⟨[.ref a], []⟩ [.ref a] [.ref a] Q E0 (hr.low hk).one I2.env0.in1 (by simpa using bind _ [.ref a] I2.kIn (by simpa using short)) (.cons rfl .nil) prom) ?_
  intro r s2 out
  cases r with
  | error er => exact (passL (X := X.nox) pins σ H1 _ er s2 (I2.wish _) out).elim
  | ok flow =>
    cases flow with
    | ret v =>
      obtain ⟨y, H2, I3, ry, qy⟩ := I2.after out
      have given := PySem.W.handedOut_of (handed_of ry)
      show wpAny _ _ (handedOut v) _ _ s2
      rw [given]
      exact wpAny_pure ⟨y, H2, I3, ry, qy⟩
    | next => exact out.elim
    | brk => exact out.elim
    | cont => exact out.elim
end
theorem Sep.news {M : List Addr} {H0 G0 G H H' : Hp} {O : List Addr} (S : Sep M H0 G0 G H O) (e : Same H H') (L : List Addr) (hL : ∀ a ∈ L, H a = none ∧ H' a ≠ none ∧ H0 a = none) : Sep M H0 G0 G H' (L ++ O) := by
  have S2 := S.same e
  refine ⟨S2.base, S2.pm, S2.sG, S2.g0, S2.gn, fun a ha => ?_⟩
  rcases List.mem_append.mp ha with h | h
  · obtain ⟨h1, h2, h3⟩ := hL a h
    exact ⟨S.gfree h1, h2, .inr h3⟩
  · exact S2.ow a h
theorem vv_chain {r r' : R2} {ta tb tc : TE} {σ : L2.St} {H : Hp} {x y z : V} {a b : Bool} (ha : Val ta σ H x) (hb : Val tb σ H y) (hc : Val tc σ H z) (h1 : ∀ Q : VK, Q (.bl a) H → r x y H Q) (h2 : ∀ Q : VK, Q (.bl b) H → r' y z H Q) :
    Val (tChain r r' ta tb tc) σ H (.bl (a && b)) := fun Q q => ha _ (hb _ (h1 _ ⟨a, rfl, by
  cases a with
  | true =>
    rw [if_pos rfl]
    exact hc _ (h2 _ q)
  | false =>
    rw [if_neg Bool.false_ne_true]
    exact q⟩))
/-! ### constants that are tuples, lists backwards, zip -/
theorem inV_ints (x : Int) : ∀ xs : List Int, inV (V.int x) (xs.map V.int) = decide (x ∈ xs)
  | [] => by simp [inV]
  | y :: r => by
    have h := inV_ints x r
    unfold inV at h ⊢
    rw [List.map_cons, List.any_cons, h]
    by_cases c : x = y
    · subst c
      simp [eqV]
    · simp [eqV, c, Ne.symm c]
theorem flat_ints : ∀ xs : List Int, (xs.map V.int).all flatV = true
  | [] => rfl
  | _ :: r => flat_ints r
def rInI (K : PySem.W.Frag) : R2 := fun x y H Q => ∃ (i : Int) (p : Addr) (xs : List Int), x = .int i ∧ y = .ref p ∧ (SqL K H p (xs.map V.int) ∨ SqT K H p (xs.map V.int)) ∧ Q (.bl (decide (i ∈ xs))) H
def rNotInI (K : PySem.W.Frag) : R2 := fun x y H Q => ∃ (i : Int) (p : Addr) (xs : List Int), x = .int i ∧ y = .ref p ∧ (SqL K H p (xs.map V.int) ∨ SqT K H p (xs.map V.int)) ∧ Q (.bl (!decide (i ∈ xs))) H
theorem op_inI {X : Cx} {K : PySem.W.Frag} (hK : X.K = K := by rfl) : OpR X (compareOp .In) (rInI K) := by
  subst hK
  intro pins s σ H x y v u Q I rx ry h
  obtain ⟨i, p, xs, rfl, rfl, hs, q⟩ := h
  refine op_in_seq pins s σ H _ _ v u Q I rx ry ⟨p, _, rfl, hs, rfl, flat_ints xs, ?_⟩
  rw [if_neg Bool.false_ne_true, inV_ints]
  exact q
theorem op_notInI {X : Cx} {K : PySem.W.Frag} (hK : X.K = K := by rfl) : OpR X (compareOp .NotIn) (rNotInI K) := by
  subst hK
  intro pins s σ H x y v u Q I rx ry h
  obtain ⟨i, p, xs, rfl, rfl, hs, q⟩ := h
  refine op_notIn_seq pins s σ H _ _ v u Q I rx ry ⟨p, _, rfl, hs, rfl, flat_ints xs, ?_⟩
  rw [if_pos rfl, inV_ints]
  exact q
theorem pe_revLK {X : Cx} {K : PySem.W.Frag} {e : Expr} {te : TE} {k : Nat} {p1 p2 p3 pos : Pos} (he : PE X e te) (hK : X.K = K := by rfl) : PE X (.Subscript e (.Slice none none (some (.UnaryOp .USub (.Constant (.int 1) k p1) p2)) p3) pos) (tRevL K te) := hK ▸ pe_revL he
theorem rev_map {α : Type} {f : α → V} {xs : List α} {H : Hp} {p : Addr} (h : H p = some (.lst (xs.map f).reverse)) : H p = some (.lst (xs.reverse.map f)) := by
  rw [List.map_reverse]
  exact h
theorem RpAll.rev {G : Hp} : ∀ {vs : List V} {ds : List PyData}, RpAll G vs ds → RpAll G vs.reverse ds.reverse
  | _, _, .nil => .nil
  | _, _, .cons h t => by
    rw [List.reverse_cons, List.reverse_cons]
    exact (RpAll.rev t).append (.one h)
theorem rev_all {α : Type} {f : α → PyData} {xs : List α} {G : Hp} {vs : List V} (a : RpAll G vs (xs.map f)) : RpAll G vs.reverse (xs.reverse.map f) := by
  rw [List.map_reverse]
  exact a.rev
theorem pi_zipK {X : Cx} {K : PySem.W.Frag} {e e2 : Expr} {ta : TA} {p pos tpos : Pos} {elts : List Expr} {kk : Nat} (hg : Gl X "zip") (hm : X.mg "zip" = none) (ha : PA X [e, e2] ta) (hK : X.K = K := by rfl)
    (hs : starEach [e, e2] X.env = (false, eval e X.env) :: starEach [e2] X.env := by rfl) (hpl : (backTo pos (starEach [e2] X.env)).any (·.1) = false := by rfl) :
    PI X (.Tuple elts kk tpos) (.Call (.Name "zip" p) [e, e2] [] pos) (RZ.iZipA K ta) := hK ▸ RZ.pi_zipA hg hm ha hs hpl
/-- a comprehension over zip of two lists of one length -/
theorem lc_zipL {K : PySem.W.Frag} {a b : Addr} {xs ys : List V} {g : TG} {tt : TT} {te : TE} {vs : List Nat} {σ : L2.St} {H1 : Hp} {D : Addr} {Qd : Hp → Prop} (hl : xs.length = ys.length) (Pv : Nat → Hp → Prop) (h0 : Pv 0 (upd H1 D (.lst []))) (hq : ∀ i H, i ≤ xs.length → Pv i H → SqL K H a xs ∧ SqL K H b ys)
    (hs : ∀ (i : Nat) (x y : V) (T : Addr) (H : Hp), xs[i]? = some x → ys[i]? = some y → H T = none → Pv i H → g (.ref T) (wipe σ vs) (upd H T (.tup [x, y])) fun σ2 H2 => wipe σ2 vs = wipe σ vs ∧ tt σ2 H2 fun b H3 =>
      if b = true then te σ2 H3 fun y H4 => ∃ acc, H4 D = some (.lst acc) ∧ acc.length < sizeLine ∧ Pv (i + 1) (upd H4 D (.lst (acc ++ [y]))) else Pv (i + 1) H3) (hd : ∀ H, Pv xs.length H → Qd H) :
    ∃ W : Nat → Nat → Hp → Prop, (∃ m, W 0 m (upd H1 D (.lst []))) ∧ ∀ i m H, W i m H →
      ((Itz K a b).stop i H ∧ Qd H) ∨ ((Itz K a b).go i H ∧ ∃ Nx : Hp → Prop, (∀ H', Nx H' → ∃ m', m' < m ∧ W (i + 1) m' H') ∧ ∀ x H', (Itz K a b).yld i H x H' → g x (wipe σ vs) H' fun σ2 H2 => wipe σ2 vs = wipe σ vs ∧ tt σ2 H2 fun b H3 =>
        if b = true then te σ2 H3 fun y H4 => ∃ acc, H4 D = some (.lst acc) ∧ acc.length < sizeLine ∧ Nx (upd H4 D (.lst (acc ++ [y]))) else Nx H3) := by
  refine ⟨fun i m H => m = xs.length - i ∧ i ≤ xs.length ∧ Pv i H, ⟨xs.length, by simp, Nat.zero_le _, h0⟩, ?_⟩
  rintro i m H ⟨rfl, hi, p⟩
  obtain ⟨qx, qy⟩ := hq i H hi p
  by_cases hlt : i < xs.length
  · have hlt2 : i < ys.length := by omega
    refine .inr ⟨⟨xs, ys, xs[i], ys[i], qx, qy, List.getElem?_eq_getElem hlt, List.getElem?_eq_getElem hlt2⟩, Pv (i + 1), fun H' p' => ⟨xs.length - (i + 1), by omega, rfl, hlt, p'⟩, fun v H' y => ?_⟩
    obtain ⟨T, x', y', rfl, hT, rfl, f1, f2⟩ := y
    exact hs i x' y' T H (f1 xs qx) (f2 ys qy) hT p
  · have e : i = xs.length := by omega
    subst e
    exact .inl ⟨⟨xs, ys, qx, qy, Or.inl (Nat.le_refl _)⟩, hd H p⟩
theorem zip_get {α β : Type} {xs : List α} {ys : List β} {i : Nat} {x : α} {y : β} (h1 : xs[i]? = some x) (h2 : ys[i]? = some y) : (xs.zip ys)[i]? = some (x, y) := by
  rw [List.getElem?_zip_eq_some]
  exact ⟨h1, h2⟩
theorem zip_len {α β : Type} {xs : List α} {ys : List β} {n : Nat} (h : xs.length = ys.length) (e : n = xs.length) : n = (xs.zip ys).length := by
  rw [List.length_zip, ← h, Nat.min_self]
  exact e
theorem zlen {α β : Type} {vs ws : List V} {xs : List α} {ys : List β} (a : vs.length = xs.length) (b : ws.length = ys.length) (h : xs.length = ys.length) : vs.length = ws.length := by rw [a, b, h]
section
variable {t : TT} {ta tb : TE} {σ : L2.St} {H : Hp}
theorem vv_ifP {p : Prop} [Decidable p] {a b : Int} (ht : Ans t σ H (decide p)) (hx : p → Val ta σ H (.int a)) (hy : ¬ p → Val tb σ H (.int b)) : Val (tIf t ta tb) σ H (.int (if p then a else b)) := by
  by_cases h : p
  · have := vv_if (p := p) (a := a) (b := a) ht (hx h) (tb := ta) (hx h)
    intro Q q
    refine ht _ ?_
    rw [decide_eq_true h, if_pos rfl]
    rw [if_pos h] at q
    exact hx h _ q
  · intro Q q
    refine ht _ ?_
    rw [decide_eq_false h, if_neg Bool.false_ne_true]
    rw [if_neg h] at q
    exact hy h _ q
theorem vv_ifQ {c : Bool} {a b : Int} (ht : Ans t σ H c) (hx : c = true → Val ta σ H (.int a)) (hy : c = false → Val tb σ H (.int b)) : Val (tIf t ta tb) σ H (.int (if c = true then a else b)) := by
  intro Q q
  refine ht _ ?_
  cases c with
  | true =>
    rw [if_pos rfl]
    rw [if_pos rfl] at q
    exact hx rfl _ q
  | false =>
    rw [if_neg Bool.false_ne_true]
    rw [if_neg Bool.false_ne_true] at q
    exact hy rfl _ q
end
theorem kit_mk0 {K : PySem.W.Frag} {S C : Addr} (h1 : (Value.ref S == Value.ref C) = false) (h2 : PySem.W.isClsIn K C = true) (h3 : PySem.W.typeIn K (.ref C) = some (.type "type")) (h4 : PySem.W.subIn K (.ref S) (.ref C) = some false) :
    PySem.W.kitOne K (.ref S) (.ref C) = some false := by
  unfold PySem.W.isClsIn at h2
  unfold PySem.W.kitOne
  rw [if_neg (by rw [h1]; exact Bool.false_ne_true)]
  unfold PySem.W.kitCls
  simp only [h2, h3, h4, beq_self_eq_true, Bool.and_self, if_true]
theorem vv_call2 {ta tb : TE} {σ : L2.St} {H : Hp} {x y z : V} {r : List V → Hp → VK → Prop} (ha : Val ta σ H x) (hb : Val tb σ H y) (hr : ∀ Q : VK, Q z H → r [x, y] H Q) : Val (tCB r (tCons ta (tCons tb tNil))) σ H z := fun Q q => ha _ (hb _ (hr Q q))
/-! ### lists of data that the caller owns; values that are a truth value or a number -/
theorem Sep.stepnew {M : List Addr} {H0 G0 G H H' : Hp} {O : List Addr} {p : Addr} {o : HO} (S : Sep M H0 G0 G H O) {G' : Hp} (e : Same H H') (eG : Same G G') (sG : Same G' H') (hn : ∀ b, H b ≠ none → G b = none → G' b = none) (_n : H p = none) (h : H' p = some o) (g : G' p = none) (hm : H0 p = none) : Sep M H0 G0 G' H' (p :: O) := by
  have S2 := S.step e eG sG hn
  refine ⟨S2.base, S2.pm, S2.sG, S2.g0, S2.gn, fun a ha => ?_⟩
  rcases List.mem_cons.mp ha with rfl | ha
  · exact ⟨g, (fun z => by rw [z] at h; cases h), .inr hm⟩
  · exact S2.ow a ha
inductive Bi where
  | b (x : Bool)
  | n (i : Int)
deriving DecidableEq
def biV : Bi → V
  | .b x => .bl x
  | .n i => .int i
def Bi.el {α : Type} (v : Bi) (f : Bool → α) (g : Int → α) : α :=
  match v with
  | .b x => f x
  | .n i => g i
theorem cW_elb {α : Type} {x : Bool} {f : Bool → Rx α} {g : Int → Rx α} {K : α → Prop} {E : Nat → Prop} (h : cW (Bi.el (.b x) f g) K E) : cW (f x) K E := h
theorem cW_eln {α : Type} {x : Int} {f : Bool → Rx α} {g : Int → Rx α} {K : α → Prop} {E : Nat → Prop} (h : cW (Bi.el (.n x) f g) K E) : cW (g x) K E := h
theorem rp_tup4 {α β γ δ : Type} {f : α → PyData} {g : β → PyData} {h : γ → PyData} {i : δ → PyData} {H : Hp} {v : V} {x : α × β × γ × δ} (r : Rp H v (encT4 f g h i x)) : ∃ a v1 v2 v3 v4, v = .ref a ∧ H a = some (.tup [v1, v2, v3, v4]) ∧ Rp H v1 (f x.1) ∧ Rp H v2 (g x.2.1) ∧ Rp H v3 (h x.2.2.1) ∧ Rp H v4 (i x.2.2.2) := by
  unfold encT4 at r
  cases r with
  | tup h1 h2 =>
    cases h2 with
    | cons a b =>
      cases b with
      | cons b c =>
        cases c with
        | cons c d =>
          cases d with
          | cons d e =>
            cases e
            exact ⟨_, _, _, _, _, rfl, h1, a, b, c, d⟩
theorem rp_mk4 {α β γ δ : Type} {f : α → PyData} {g : β → PyData} {h : γ → PyData} {i : δ → PyData} {H : Hp} {a : Addr} {v1 v2 v3 v4 : V} {x : α} {y : β} {z : γ} {w : δ} (h1 : H a = some (.tup [v1, v2, v3, v4])) (r1 : Rp H v1 (f x)) (r2 : Rp H v2 (g y)) (r3 : Rp H v3 (h z)) (r4 : Rp H v4 (i w)) : Rp H (.ref a) (encT4 f g h i (x, y, z, w)) := .tup h1 (.cons r1 (.cons r2 (.cons r3 (.cons r4 .nil))))
theorem Sep.b0M {M : List Addr} {H0 G0 G H : Hp} {O : List Addr} (S : Sep M H0 G0 G H O) (h : ∀ a ∈ M, H a = H0 a) : Same H0 H := fun b o e => by
  by_cases z : b ∈ M
  · rw [h b z]
    exact e
  · exact S.base b o e z
section
variable {X : Cx} {k j n : Nat} {f C : Addr} {fd : FuncData} {ps ks : List Str} {g : List V → List V → List V} {sp : Sp} {x m : Str} {pos p apos : Pos} {e o : Expr} {es : List Expr} {kws : List Keyword} {ta : TE} {t tk : TA} {W : WX}
/-- keywords alone -/
theorem vx_makeXK {pats : List Pat} (c : MakX X.prog X.w X.K X.mg X.base k x C sp pats) (pt : Pat) (hpt : pt ∈ pats) (hr : RoomG j X.A) (hk : k + 1 ≤ j) (tkW : Takes X W) (hg : Gl X x) (hkw : PK X kws tk)
    (hall : (backToKw pos (keywordEach kws X.env)).all (·.1.isSome) = true := by rfl) (hks : (backToKw pos (keywordEach kws X.env)).filterMap (·.1) = pt.2.1 := by rfl) (hdb : (x == ("__debug__" : Str)) = false := by decide)
    (hpl : ((backTo pos (starEach [] X.env)).any (·.1) || (backToKw pos (keywordEach kws X.env)).any (·.1.isNone)) = false := by rfl) :
    PE X (.Call (.Name x p) [] kws pos) (tMakeX C pt.1 pt.2.1.length sp pt.2.2 W tNil tk) := by
  obtain ⟨f, fd, ps, M, F, hm, b⟩ := c.ex
  refine ⟨fun pins s σ H Q I h => ?_⟩
  refine wpAny_Call_Name_kw (ld_glob I hg hm ?_ hdb)
  refine PySem.W.callWith_KW0 (h₀ := X.base) I.ok.mod.kin M.kp hall ?_ hpl
  refine thn (hkw.run pos pins s σ H _ I h) fun ws s2 ⟨zs, H2, I2, rz, l1, l2, q2⟩ => ⟨I2.kIn, ?_⟩
  rw [hks]
  exact run_mkX (us := []) (vs := []) M F (hr.low hk) (b pt hpt) tkW I2 .nil rz l1 l2 q2
theorem vx_callXK {pats : List Pat} (c : CalX X.prog X.w X.K X.mg X.base k x sp pats) (pt : Pat) (hpt : pt ∈ pats) (hr : RoomG j X.A) (hk : k ≤ j) (tkW : Takes X W) (hg : Gl X x) (hkw : PK X kws tk)
    (hall : (backToKw pos (keywordEach kws X.env)).all (·.1.isSome) = true := by rfl) (hks : (backToKw pos (keywordEach kws X.env)).filterMap (·.1) = pt.2.1 := by rfl) (hdb : (x == ("__debug__" : Str)) = false := by decide)
    (hpl : ((backTo pos (starEach [] X.env)).any (·.1) || (backToKw pos (keywordEach kws X.env)).any (·.1.isNone)) = false := by rfl) :
    PE X (.Call (.Name x p) [] kws pos) (tCallX pt.1 pt.2.1.length sp pt.2.2 W tNil tk) := by
  obtain ⟨f, fd, ps, F, hm, kp, b⟩ := c.ex
  refine ⟨fun pins s σ H Q I h => ?_⟩
  refine wpAny_Call_Name_kw (ld_glob I hg hm ?_ hdb)
  refine PySem.W.callWith_KW0 (h₀ := X.base) I.ok.mod.kin kp hall ?_ hpl
  refine thn (hkw.run pos pins s σ H _ I h) fun ws s2 ⟨zs, H2, I2, rz, l1, l2, q2⟩ => ⟨I2.kIn, ?_⟩
  rw [hks]
  exact run_X (us := []) (vs := []) F (hr.low hk) (b pt hpt) tkW I2 .nil rz l1 l2 q2
theorem vx_methXK {pats : List Pat} {pl : Sem Bool} (c : MetX X.prog X.w X.K X.mg X.base k C m sp pats) (pt : Pat) (hpt : pt ∈ pats) (hr : RoomG j X.A) (hk : k ≤ j) (tkW : Takes X W) (he : PE X o ta) (hkw : PK X kws tk)
    (hall : (backToKw pos (keywordEach kws X.env)).all (·.1.isSome) = true := by rfl) (hks : (backToKw pos (keywordEach kws X.env)).filterMap (·.1) = pt.2.1 := by rfl)
    (hpl : ((backTo pos (starEach [] X.env)).any (·.1) || (backToKw pos (keywordEach kws X.env)).any (·.1.isNone)) = false := by rfl)
    (ht : eval (.Call (.Attribute o m apos) [] kws pos) X.env = (do
      let ov ← eval o X.env
      standAt apos.atName
      let (f, first) ← holding [ov] (getMethod ov m pl)
      callWith pos f first (backTo pos (starEach [] X.env)) (backToKw pos (keywordEach kws X.env))) := by rfl) :
    PE X (.Call (.Attribute o m apos) [] kws pos) (tMethX C m pt.1 pt.2.1.length sp pt.2.2 W ta tNil tk) := by
  obtain ⟨f, fd, ps, hc, hm, F, b⟩ := c.ex
  refine ⟨fun pins s σ H Q I h => ?_⟩
  refine PySem.W.methodCall_KW (pl := pl) (thn (he.run pins s σ H _ I h) fun u s1 ⟨x, H1, I1, rx, a, dx, fs, ex, ea, l, q⟩ => ?_) ht
  subst ex
  obtain rfl : u = Value.ref a := rx
  refine getmeth_ok I1 ea hc hm l ?_
  refine PySem.W.callWith_KW0 (first := [.ref a]) (h₀ := X.base) I.ok.mod.kin hm.kp hall ?_ hpl
  refine thn (hkw.run pos pins s1 σ H1 _ I1 q) fun ws s3 ⟨zs, H3, I3, rz, l1, l2, q3⟩ => ⟨I3.kIn, ?_⟩
  rw [hks]
  exact run_X (us := [.ref a]) (vs := [.ref a]) F (hr.low hk) (b pt hpt) tkW I3 (.cons rfl .nil) rz l1 l2 q3
end
end Vx
/-! # lists within lists that are owned as a whole -/
namespace Vx
open PySem PySem.Spec PyProof.Rows L2
inductive Kd where
  | lst
  | tup
  | ins (C dx : Addr) (ns : List Str)
def Kd.ho : Kd → List V → HO
  | .lst, vs => .lst vs
  | .tup, vs => .tup vs
  | .ins C dx ns, vs => .ins C dx (ns.zip vs)
/-- what stands in the heap as a tree: values as they are, data that stay, nodes of its own -/
inductive Dt where
  | val (v : V)
  | frz (d : PyData)
  | nod (k : Kd) (xs : List Dt)
mutual
inductive Ow (G H : Hp) : List Addr → V → Dt → Prop
  | val (v : V) : Ow G H [] v (.val v)
  | frz {v : V} {d : PyData} : Rp G v d → Ow G H [] v (.frz d)
  | nod {a : Addr} {k : Kd} {vs : List V} {ds : List Dt} {L : List Addr} : H a = some (k.ho vs) → OwAll G H L vs ds → a ∉ L → Ow G H (a :: L) (.ref a) (.nod k ds)
inductive OwAll (G H : Hp) : List Addr → List V → List Dt → Prop
  | nil : OwAll G H [] [] []
  | cons {L1 L2 : List Addr} {v : V} {vs : List V} {d : Dt} {ds : List Dt} : Ow G H L1 v d → OwAll G H L2 vs ds → (∀ b ∈ L1, b ∉ L2) → OwAll G H (L1 ++ L2) (v :: vs) (d :: ds)
end
def Keeps (L : List Addr) (H H' : Hp) : Prop := ∀ b ∈ L, ∀ o, H b = some o → H' b = some o
mutual
theorem Ow.mono {G G' H H' : Hp} (e : Same G G') : ∀ {L : List Addr} {v : V} {d : Dt}, Keeps L H H' → Ow G H L v d → Ow G' H' L v d
  | _, _, _, _, .val v => .val v
  | _, _, _, _, .frz r => .frz (r.mono e)
  | _, _, _, k, .nod h r n => .nod (k _ List.mem_cons_self _ h) (OwAll.mono e (fun b hb => k b (List.mem_cons_of_mem _ hb)) r) n
theorem OwAll.mono {G G' H H' : Hp} (e : Same G G') : ∀ {L : List Addr} {vs : List V} {ds : List Dt}, Keeps L H H' → OwAll G H L vs ds → OwAll G' H' L vs ds
  | _, _, _, _, .nil => .nil
  | _, _, _, k, .cons a r d => .cons (Ow.mono e (fun b hb => k b (List.mem_append_left _ hb)) a) (OwAll.mono e (fun b hb => k b (List.mem_append_right _ hb)) r) d
end
mutual
theorem Ow.there {G H : Hp} : ∀ {L : List Addr} {v : V} {d : Dt}, Ow G H L v d → ∀ b ∈ L, H b ≠ none
  | _, _, _, .val _, _, hb => nomatch hb
  | _, _, _, .frz _, _, hb => nomatch hb
  | _, _, _, .nod h r n, b, hb => by
    rcases List.mem_cons.mp hb with rfl | hb
    · exact some_ne h
    · exact OwAll.there r b hb
theorem OwAll.there {G H : Hp} : ∀ {L : List Addr} {vs : List V} {ds : List Dt}, OwAll G H L vs ds → ∀ b ∈ L, H b ≠ none
  | _, _, _, .nil, _, hb => nomatch hb
  | _, _, _, .cons a r d, b, hb => by
    rcases List.mem_append.mp hb with hb | hb
    · exact Ow.there a b hb
    · exact OwAll.there r b hb
end
theorem OwAll.len {G H : Hp} : ∀ {L : List Addr} {vs : List V} {ds : List Dt}, OwAll G H L vs ds → vs.length = ds.length
  | _, _, _, .nil => rfl
  | _, _, _, .cons _ r _ => congrArg Nat.succ r.len
theorem OwAll.snoc {G H : Hp} {L1 : List Addr} {v : V} {d : Dt} (h : Ow G H L1 v d) : ∀ {L : List Addr} {vs : List V} {ds : List Dt}, OwAll G H L vs ds → (∀ b ∈ L, b ∉ L1) → OwAll G H (L ++ L1) (vs ++ [v]) (ds ++ [d])
  | _, _, _, .nil, _ => by
    have z : OwAll G H (L1 ++ []) [v] [d] := .cons h .nil (fun _ _ z => nomatch z)
    rw [List.append_nil] at z
    exact z
  | _, _, _, .cons (L1 := La) (L2 := Lb) a r n, k => by
    have z := OwAll.cons a (OwAll.snoc h r fun b hb => k b (List.mem_append_right _ hb)) (fun b hb q => by
      rcases List.mem_append.mp q with q | q
      · exact n b hb q
      · exact k b (List.mem_append_left _ hb) q)
    rw [← List.append_assoc] at z
    exact z
theorem OwAll.app {G H : Hp} {L2 : List Addr} {ws : List V} {es : List Dt} (h : OwAll G H L2 ws es) : ∀ {L : List Addr} {vs : List V} {ds : List Dt}, OwAll G H L vs ds → (∀ b ∈ L, b ∉ L2) → OwAll G H (L ++ L2) (vs ++ ws) (ds ++ es)
  | _, _, _, .nil, _ => h
  | _, _, _, .cons (L1 := La) (L2 := Lb) a r n, k => by
    have z := OwAll.cons a (OwAll.app h r fun b hb => k b (List.mem_append_right _ hb)) (fun b hb q => by
      rcases List.mem_append.mp q with q | q
      · exact n b hb q
      · exact k b (List.mem_append_left _ hb) q)
    rw [← List.append_assoc] at z
    exact z
/-! ### trees that are data -/
mutual
inductive Dd : Dt → PyData → Prop
  | non : Dd (.val .non) .none
  | bl (b : Bool) : Dd (.val (.bl b)) (.bool b)
  | int (i : Int) : Dd (.val (.int i)) (.int i)
  | str (x : Str) : Dd (.val (.str x)) (.str x)
  | frz (d : PyData) : Dd (.frz d) d
  | lst {xs : List Dt} {ds : List PyData} : DdAll xs ds → Dd (.nod .lst xs) (.list ds)
  | tup {xs : List Dt} {ds : List PyData} : DdAll xs ds → Dd (.nod .tup xs) (.tuple ds)
inductive DdAll : List Dt → List PyData → Prop
  | nil : DdAll [] []
  | cons {x : Dt} {xs : List Dt} {d : PyData} {ds : List PyData} : Dd x d → DdAll xs ds → DdAll (x :: xs) (d :: ds)
end
mutual
/-- read in any heap that holds its nodes -/
theorem Ow.rp {G H I : Hp} (e : Same G I) : ∀ {L : List Addr} {v : V} {d : Dt} {p : PyData}, Keeps L H I → Ow G H L v d → Dd d p → Rp I v p
  | _, _, _, _, _, .val _, .non => .non
  | _, _, _, _, _, .val _, .bl b => .bl b
  | _, _, _, _, _, .val _, .int i => .int i
  | _, _, _, _, _, .val _, .str x => .str x
  | _, _, _, _, _, .frz r, .frz _ => r.mono e
  | _, _, _, _, k, .nod h r _, .lst q => .lst (k _ List.mem_cons_self _ h) (OwAll.rp e (fun b hb => k b (List.mem_cons_of_mem _ hb)) r q)
  | _, _, _, _, k, .nod h r _, .tup q => .tup (k _ List.mem_cons_self _ h) (OwAll.rp e (fun b hb => k b (List.mem_cons_of_mem _ hb)) r q)
theorem OwAll.rp {G H I : Hp} (e : Same G I) : ∀ {L : List Addr} {vs : List V} {ds : List Dt} {ps : List PyData}, Keeps L H I → OwAll G H L vs ds → DdAll ds ps → RpAll I vs ps
  | _, _, _, _, _, .nil, .nil => .nil
  | _, _, _, _, k, .cons a r _, .cons x xs => .cons (Ow.rp e (fun b hb => k b (List.mem_append_left _ hb)) a x) (OwAll.rp e (fun b hb => k b (List.mem_append_right _ hb)) r xs)
end
def oI (i : Int) : Dt := .val (.int i)
def oB (b : Bool) : Dt := .val (.bl b)
def oF {α : Type} (f : α → PyData) (x : α) : Dt := .frz (f x)
def oL {α : Type} (f : α → Dt) (xs : List α) : Dt := .nod .lst (xs.map f)
def EncO {α : Type} (f : α → Dt) (g : α → PyData) : Prop := ∀ x, Dd (f x) (g x)
theorem encO_I : EncO oI PyData.int := fun i => .int i
theorem encO_B : EncO oB PyData.bool := fun i => .bl i
theorem encO_F {α : Type} {f : α → PyData} : EncO (oF f) f := fun _ => .frz _
theorem EncO.all {α : Type} {f : α → Dt} {g : α → PyData} (h : EncO f g) : ∀ xs : List α, DdAll (xs.map f) (xs.map g)
  | [] => .nil
  | x :: xs => .cons (h x) (EncO.all h xs)
theorem encO_L {α : Type} {f : α → Dt} {g : α → PyData} (h : EncO f g) : EncO (oL f) (encL g) := fun xs => .lst (h.all xs)
theorem keeps_same {L : List Addr} {H H' : Hp} (e : Same H H') : Keeps L H H' := fun b _ o q => e b o q
theorem keeps_refl {L : List Addr} {H : Hp} : Keeps L H H := fun _ _ _ q => q
theorem keeps_mut {L : List Addr} {H H' : Hp} {m : Addr} (x : SameX m H H') (n : ∀ b ∈ L, b ≠ m) : Keeps L H H' := fun b hb o q => x b o q (n b hb)
theorem keeps_muts {L M : List Addr} {H H' : Hp} (x : SameXs M H H') (n : ∀ b ∈ L, b ∉ M) : Keeps L H H' := fun b hb o q => x b o q (n b hb)
theorem keeps_hide {L M : List Addr} {H : Hp} (n : ∀ b ∈ L, b ∉ M) : Keeps L H (hideL M H) := fun b hb o q => by
  rw [hideL_out (n b hb)]
  exact q
section
variable {α : Type} {f : α → Dt} {g : α → PyData} {G H I : Hp} {L : List Addr} {vs : List V} {xs : List α}
theorem OwAll.rpA (w : OwAll G H L vs (xs.map f)) (h : EncO f g) (e : Same G H) : RpAll H vs (xs.map g) := OwAll.rp e keeps_refl w (h.all xs)
theorem OwAll.rpH (w : OwAll G H L vs (xs.map f)) (h : EncO f g) (e : Same G I) (k : Keeps L H I) : RpAll I vs (xs.map g) := OwAll.rp e k w (h.all xs)
theorem OwAll.lenM (w : OwAll G H L vs (xs.map f)) : vs.length = xs.length := by rw [w.len, List.length_map]
theorem OwAll.snocM {L1 : List Addr} {v : V} {y : α} (w : OwAll G H L vs (xs.map f)) (h : Ow G H L1 v (f y)) (n : ∀ b ∈ L, b ∉ L1) : OwAll G H (L ++ L1) (vs ++ [v]) ((xs ++ [y]).map f) := by
  rw [List.map_append]
  exact OwAll.snoc h w n
theorem Ow.ints {a : Addr} {ys : List Int} (h : H a = some (.lst (ys.map V.int))) : Ow G H [a] (.ref a) (oL oI ys) := by
  have z : ∀ ys : List Int, OwAll G H [] (ys.map V.int) (ys.map oI) := fun ys => by
    induction ys with
    | nil => exact .nil
    | cons y r ih => exact .cons (L1 := []) (L2 := []) (.val _) ih (fun _ z => nomatch z)
  exact .nod (k := .lst) h (z ys) (fun z => nomatch z)
theorem Ow.list {a : Addr} {xs : List α} {L : List Addr} {vs : List V} (h : H a = some (.lst vs)) (w : OwAll G H L vs (xs.map f)) (n : ∀ b ∈ L, b ≠ a) : Ow G H (a :: L) (.ref a) (oL f xs) := .nod (k := .lst) h w (fun z => n a z rfl)
theorem Ow.toList {v : V} {L : List Addr} {xs : List α} (w : Ow G H L v (oL f xs)) : ∃ a vs L', v = .ref a ∧ L = a :: L' ∧ H a = some (.lst vs) ∧ OwAll G H L' vs (xs.map f) ∧ ∀ b ∈ L', b ≠ a := by
  unfold oL at w
  cases w with
  | nod h r n => exact ⟨_, _, _, rfl, rfl, h, r, fun b hb z => n (z ▸ hb)⟩
theorem OwAll.toInts : ∀ {L : List Addr} {vs : List V} {xs : List Int}, OwAll G H L vs (xs.map oI) → L = [] ∧ vs = xs.map V.int
  | _, _, [], .nil => ⟨rfl, rfl⟩
  | _, _, x :: xs, .cons a r _ => by
    obtain ⟨h1, h2⟩ := OwAll.toInts r
    cases a
    exact ⟨by rw [h1] <;> rfl, by rw [h2] <;> rfl⟩
theorem Ow.toInts {v : V} {L : List Addr} {xs : List Int} (w : Ow G H L v (oL oI xs)) : ∃ a, v = .ref a ∧ L = [a] ∧ H a = some (.lst (xs.map V.int)) := by
  obtain ⟨a, vs, L', rfl, rfl, h, r, _⟩ := w.toList
  obtain ⟨rfl, rfl⟩ := r.toInts
  exact ⟨a, rfl, rfl, h⟩
/-- the part at a place, and how a change of it alone changes the whole -/
theorem OwAll.part : ∀ {L : List Addr} {vs : List V} {ds : List Dt} {i : Nat} {d : Dt}, OwAll G H L vs ds → ds[i]? = some d → ∃ v L1, vs[i]? = some v ∧ Ow G H L1 v d ∧ (∀ b ∈ L1, b ∈ L) ∧
    ∀ H' d', (∀ b ∈ L, b ∉ L1 → ∀ o, H b = some o → H' b = some o) → Ow G H' L1 v d' → OwAll G H' L vs (ds.set i d')
  | _, _, _, _, _, .nil, h => by simp at h
  | _, _, _, 0, _, .cons (L1 := La) (L2 := Lb) a r n, h => by
    simp at h
    subst h
    refine ⟨_, La, rfl, a, fun b hb => List.mem_append_left _ hb, fun H' d' k w => ?_⟩
    exact .cons w (OwAll.mono (Same.refl G) (fun b hb => k b (List.mem_append_right _ hb) fun z => n b z hb) r) n
  | _, _, _, i + 1, _, .cons (L1 := La) (L2 := Lb) a r n, h => by
    obtain ⟨v, L1, h1, h2, h3, h4⟩ := OwAll.part (i := i) r (by simpa using h)
    refine ⟨v, L1, by simpa using h1, h2, fun b hb => List.mem_append_right _ (h3 b hb), fun H' d' k w => ?_⟩
    refine .cons (Ow.mono (Same.refl G) (fun b hb => k b (List.mem_append_left _ hb) fun z => n b hb (h3 b z)) a) (h4 H' d' (fun b hb nb => k b (List.mem_append_right _ hb) nb) w) n
/-- the same, where the part grows: its new footprint is the old one and what is new -/
theorem OwAll.part2 : ∀ {L : List Addr} {vs : List V} {ds : List Dt} {i : Nat} {d : Dt}, OwAll G H L vs ds → ds[i]? = some d → ∃ v L1, vs[i]? = some v ∧ Ow G H L1 v d ∧ (∀ b ∈ L1, b ∈ L) ∧
    (∀ H' d', (∀ b ∈ L, b ∉ L1 → ∀ o, H b = some o → H' b = some o) → Ow G H' L1 v d' → OwAll G H' L vs (ds.set i d')) ∧
    ∀ G' H' d' Fv L1', Same G G' → (∀ b ∈ L, b ∉ L1 → ∀ o, H b = some o → H' b = some o) → (∀ b ∈ L1', b ∈ L1 ++ Fv) → (∀ b ∈ Fv, b ∉ L) → Ow G' H' L1' v d' → ∃ L', (∀ b ∈ L', b ∈ L ++ Fv) ∧ OwAll G' H' L' vs (ds.set i d')
  | _, _, _, _, _, .nil, h => by simp at h
  | _, _, _, 0, _, .cons (L1 := La) (L2 := Lb) a r n, h => by
    simp at h
    subst h
    refine ⟨_, La, rfl, a, fun b hb => List.mem_append_left _ hb, fun H' d' k w => ?_, fun G' H' d' Fv L1' eG k s nf w => ⟨L1' ++ Lb, fun b hb => ?_, ?_⟩⟩
    · exact .cons w (OwAll.mono (Same.refl G) (fun b hb => k b (List.mem_append_right _ hb) fun z => n b z hb) r) n
    · rcases List.mem_append.mp hb with hb | hb
      · rcases List.mem_append.mp (s b hb) with q | q
        · exact List.mem_append_left _ (List.mem_append_left _ q)
        · exact List.mem_append_right _ q
      · exact List.mem_append_left _ (List.mem_append_right _ hb)
    · refine .cons w (OwAll.mono eG (fun b hb => k b (List.mem_append_right _ hb) fun z => n b z hb) r) fun b hb q => ?_
      rcases List.mem_append.mp (s b hb) with z | z
      · exact n b z q
      · exact nf b z (List.mem_append_right _ q)
  | _, _, _, i + 1, _, .cons (L1 := La) (L2 := Lb) a r n, h => by
    obtain ⟨v, L1, h1, h2, h3, h4, h5⟩ := OwAll.part2 (i := i) r (by simpa using h)
    refine ⟨v, L1, by simpa using h1, h2, fun b hb => List.mem_append_right _ (h3 b hb), fun H' d' k w => ?_, fun G' H' d' Fv L1' eG k s nf w => ?_⟩
    · refine .cons (Ow.mono (Same.refl G) (fun b hb => k b (List.mem_append_left _ hb) fun z => n b hb (h3 b z)) a) (h4 H' d' (fun b hb nb => k b (List.mem_append_right _ hb) nb) w) n
    · obtain ⟨L', s2, z⟩ := h5 G' H' d' Fv L1' eG (fun b hb nb => k b (List.mem_append_right _ hb) nb) s (fun b hb q => nf b hb (List.mem_append_right _ q)) w
      refine ⟨La ++ L', fun b hb => ?_, .cons (Ow.mono eG (fun b hb => k b (List.mem_append_left _ hb) fun z => n b hb (h3 b z)) a) z fun b hb q => ?_⟩
      · rcases List.mem_append.mp hb with hb | hb
        · exact List.mem_append_left _ (List.mem_append_left _ hb)
        · rcases List.mem_append.mp (s2 b hb) with q | q
          · exact List.mem_append_left _ (List.mem_append_right _ q)
          · exact List.mem_append_right _ q
      · rcases List.mem_append.mp (s2 b q) with y | y
        · exact n b hb y
        · exact nf b y (List.mem_append_left _ hb)
theorem OwAll.partM [Inhabited α] {k : Int} (w : OwAll G H L vs (xs.map f)) (h : -(xs.length : Int) ≤ k ∧ k < xs.length) : ∃ v L1, atI vs k = some v ∧ Ow G H L1 v (f (itD xs k)) ∧ (∀ b ∈ L1, b ∈ L) ∧
    (∀ H' y, (∀ b ∈ L, b ∉ L1 → ∀ o, H b = some o → H' b = some o) → Ow G H' L1 v (f y) → OwAll G H' L vs ((setL xs k y).map f)) ∧
    ∀ G' H' y Fv L1', Same G G' → (∀ b ∈ L, b ∉ L1 → ∀ o, H b = some o → H' b = some o) → (∀ b ∈ L1', b ∈ L1 ++ Fv) → (∀ b ∈ Fv, b ∉ L) → Ow G' H' L1' v (f y) → ∃ L', (∀ b ∈ L', b ∈ L ++ Fv) ∧ OwAll G' H' L' vs ((setL xs k y).map f) := by
  obtain ⟨j, e, hj⟩ := ixN_some h
  have hx := List.getElem?_eq_getElem hj
  obtain ⟨v, L1, h1, h2, h3, h4, h5⟩ := OwAll.part2 (i := j) (d := f xs[j]) w (by rw [List.getElem?_map, hx] <;> rfl)
  have ei : itD xs k = xs[j] := by
    unfold itD atI
    rw [e]
    show (xs[j]?).getD default = _
    rw [hx] <;> rfl
  refine ⟨v, L1, ?_, by rw [ei]; exact h2, h3, fun H' y q w2 => ?_, fun G' H' y Fv L1' eG q s nf w2 => ?_⟩
  · unfold atI
    rw [w.lenM, e]
    exact h1
  · have z := h4 H' (f y) q w2
    unfold setL
    rw [e, List.map_set]
    exact z
  · obtain ⟨L', s2, z⟩ := h5 G' H' (f y) Fv L1' eG q s nf w2
    refine ⟨L', s2, ?_⟩
    unfold setL
    rw [e, List.map_set]
    exact z
theorem grow_keeps {L L1 : List Addr} {m : Addr} {H H1 H2 : Hp} (e : Same H H1) (x : SameX m H1 H2) (hm : m ∈ L1) : ∀ b ∈ L, b ∉ L1 → ∀ o, H b = some o → H2 b = some o := fun b _ n o q => x b o (e b o q) (fun z => n (z ▸ hm))
theorem grow_sub {a : Addr} {L' Lr Fv : List Addr} (h : ∀ b ∈ L', b ∈ Lr ++ Fv) : ∀ b ∈ a :: L', b ∈ (a :: Lr) ++ Fv := fun b hb => by
  rcases List.mem_cons.mp hb with rfl | hb
  · exact List.mem_cons_self
  · exact List.mem_cons_of_mem _ (h b hb)
/-- the item of a turn -/
theorem OwAll.turn {i : Nat} {v : V} (w : OwAll G H L vs (xs.map f)) (h : vs[i]? = some v) : ∃ x L1, xs[i]? = some x ∧ Ow G H L1 v (f x) ∧ ∀ b ∈ L1, b ∈ L := by
  have hl := get_len h
  have e := w.lenM
  have hx := List.getElem?_eq_getElem (show i < xs.length by omega)
  obtain ⟨v2, L1, h1, h2, h3, _⟩ := OwAll.part (i := i) (d := f xs[i]) w (by rw [List.getElem?_map, hx] <;> rfl)
  rw [h] at h1
  cases h1
  exact ⟨_, L1, hx, h2, h3⟩
end
/-! ### what is owned, in pieces -/
theorem all_app {P : Addr → Prop} {L l : List Addr} (h : ∀ x ∈ L, P x) (t : ∀ x ∈ l, P x) : ∀ x ∈ L ++ l, P x := fun x hx => by
  rcases List.mem_append.mp hx with q | q
  · exact h x q
  · exact t x q
theorem nm_nil {a : Addr} : a ∉ ([] : List Addr) := fun z => nomatch z
theorem nm_cons {a m : Addr} {l : List Addr} (h : a ≠ m) (t : a ∉ l) : a ∉ m :: l := fun z => by
  rcases List.mem_cons.mp z with q | q
  · exact h q
  · exact t q
theorem nm_app {a : Addr} {L l : List Addr} (h : a ∉ L) (t : a ∉ l) : a ∉ L ++ l := fun z => by
  rcases List.mem_append.mp z with q | q
  · exact h q
  · exact t q
theorem there_ne {H : Hp} {L : List Addr} {x : Addr} (t : ∀ b ∈ L, H b ≠ none) (n : H x = none) : ∀ b ∈ L, b ≠ x := fun b hb z => t b hb (z ▸ n)
theorem new_ne {H : Hp} {L : List Addr} {x : Addr} {o : HO} (n : ∀ b ∈ L, H b = none) (h : H x = some o) : ∀ b ∈ L, b ≠ x := fun b hb z => by
  have := n b hb
  rw [z, h] at this
  cases this
theorem new_nl {H : Hp} {L L2 : List Addr} (n : ∀ b ∈ L, H b = none) (t : ∀ b ∈ L2, H b ≠ none) : ∀ b ∈ L, b ∉ L2 := fun b hb z => t b z (n b hb)
theorem nl_symm {L L2 : List Addr} (h : ∀ b ∈ L, b ∉ L2) : ∀ b ∈ L2, b ∉ L := fun b hb z => h b z hb
theorem none_of_same {H H' : Hp} {x : Addr} (e : Same H H') (n : H' x = none) : H x = none := by
  cases q : H x with
  | none => rfl
  | some o =>
    rw [e x o q] at n
    cases n
section
variable {M : List Addr} {H0 G0 G H H' : Hp} {O L : List Addr} {p m : Addr} {o : HO}
theorem Sep.h0 (S : Sep M H0 G0 G H O) {b : Addr} (hb : b ∈ O) (hM : b ∉ M) : H0 b = none := (S.ow b hb).2.2.elim (fun z => (hM z).elim) id
theorem g_nl {a : Addr} {o : HO} (h : G a = some o) (S : Sep M H0 G0 G H O) (hL : ∀ b ∈ L, b ∈ O) : ∀ b ∈ L, b ≠ a := fun b hb => (g_ne h S (hL b hb)).symm
theorem b_nl {a : Addr} {o : HO} (h : (hideL M H0) a = some o) (S : Sep M H0 G0 G H O) (hL : ∀ b ∈ L, b ∈ O) : ∀ b ∈ L, b ≠ a := fun b hb => (b_ne h S (hL b hb)).symm
/-- a whole tree that is to stay as it is -/
theorem Sep.freezeL (S : Sep M H0 G0 G H O) {O' : List Addr} (hL : ∀ b ∈ L, b ∈ O) (h0 : ∀ b ∈ L, H0 b = none) (hO : ∀ b ∈ O', b ∈ O ∧ b ∉ L) : ∃ G', Same G G' ∧ Keeps L H G' ∧ Sep M H0 G0 G' H O' := by
  have gn : ∀ b ∈ L, G b = none := fun b hb => (S.ow b (hL b hb)).1
  refine ⟨fun b => if b ∈ L then H b else G b, fun b u q => ?_, fun b hb u q => ?_, S.base, S.pm, fun b u q => ?_, fun b u q => ?_, fun b hb gb => ?_, fun a ha => ?_⟩
  · have n : b ∉ L := fun z => by
      rw [gn b z] at q
      cases q
    show (if b ∈ L then H b else G b) = _
    rw [if_neg n]
    exact q
  · show (if b ∈ L then H b else G b) = _
    rw [if_pos hb]
    exact q
  · by_cases z : b ∈ L
    · exact (if_pos z).symm.trans q
    · exact S.sG b u ((if_neg z).symm.trans q)
  · have z : b ∉ L := fun z => by
      have := S.g0 b u q
      rw [gn b z] at this
      cases this
    show (if b ∈ L then H b else G b) = _
    rw [if_neg z]
    exact S.g0 b u q
  · have z : b ∉ L := fun z => hb (h0 b z)
    show (if b ∈ L then H b else G b) = _
    rw [if_neg z]
    exact S.gn b hb gb
  · obtain ⟨h1, h2⟩ := hO a ha
    refine ⟨?_, (S.ow a h1).2⟩
    show (if a ∈ L then H a else G a) = _
    rw [if_neg h2]
    exact (S.ow a h1).1
/-- a callee hands over a list of lists of its own making -/
theorem Sep.steptree (S : Sep M H0 G0 G H O) {G' : Hp} (e : Same H H') (eG : Same G G') (sG : Same G' H') (hn : ∀ b, H b ≠ none → G b = none → G' b = none) (L : List Addr) (hL : ∀ b ∈ L, H b = none ∧ G' b = none ∧ H' b ≠ none) : Sep M H0 G0 G' H' (L ++ O) := by
  have S2 := S.step e eG sG hn
  refine ⟨S2.base, S2.pm, S2.sG, S2.g0, S2.gn, all_app (fun b hb => ⟨(hL b hb).2.1, (hL b hb).2.2, .inr (S.free (hL b hb).1)⟩) S2.ow⟩
end
theorem Rp.list_of {α : Type} {g : α → PyData} {H : Hp} {a : Addr} {vs : List V} {xs : List α} (h : H a = some (.lst vs)) (r : RpAll H vs (xs.map g)) : Rp H (.ref a) (encL g xs) := .lst h r
/-! ### repr of data -/
mutual
def nodes : PyData → Nat
  | .list xs => 1 + nodesAll xs
  | .tuple xs => 1 + nodesAll xs
  | _ => 1
def nodesAll : List PyData → Nat
  | [] => 0
  | x :: xs => nodes x + nodesAll xs
end
mutual
def smallD : PyData → Bool
  | .none => true
  | .bool _ => true
  | .int i => decide (i.natAbs < 10 ^ 19)
  | .str x => decide ((reprText x).length ≤ 20)
  | .list xs => smallAll xs
  | .tuple xs => smallAll xs
  | _ => false
def smallAll : List PyData → Bool
  | [] => true
  | x :: xs => smallD x && smallAll xs
end
theorem piled_list (ts : List Str) : (listText ts).length ≤ piled ts + 2 := by
  cases ts with
  | nil => exact Nat.le_refl 2
  | cons t r =>
    have e : (listText (t :: r)).length = (textFrom 1 ("[" ++ ("" : String) ++ t) r).length + 1 := by
      show (textFrom 0 "[" (t :: r) ++ "]").length = _
      rw [strLen_append]
      rfl
    rw [e, textFrom_length_pos r 1 _ (by decide), piled_cons, strLen_append, strLen_append]
    have h1 : (("[" : String) : Str).length = 1 := rfl
    have h2 : (("" : String) : Str).length = 0 := rfl
    omega
theorem piled_tup (ts : List Str) : (tupleText ts).length ≤ piled ts + 3 := by
  unfold tupleText
  rw [strLen_append, strLen_append]
  have h1 : (("(" : String) : Str).length = 1 := rfl
  have h2 : (((if ts.length == 1 then ",)" else ")" : String) : Str)).length ≤ 2 := by split <;> decide
  by_cases h : ts = []
  · subst h
    exact Nat.le_of_lt (by decide)
  · have := join_length_add ts h
    omega
mutual
theorem small_shown : ∀ d : PyData, smallD d = true → d.shown.length + 4 ≤ 26 * nodes d ∧ d.showable = true ∧ d.hasDict = false
  | .none, _ => ⟨by simp only [PyData.shown, nodes]; decide, by simp [PyData.showable], by simp [PyData.hasDict]⟩
  | .bool b, _ => ⟨by cases b <;> simp only [PyData.shown, nodes] <;> decide, by simp [PyData.showable], by simp [PyData.hasDict]⟩
  | .int i, h => by
    have h : i.natAbs < 10 ^ 19 := by simpa [smallD] using h
    refine ⟨?_, ?_, by simp [PyData.hasDict]⟩
    · have := int_text_length_le10 (k := 19) (by decide) h
      simp only [PyData.shown, nodes]
      rw [PySem.ofString_length]
      omega
    · simp only [PyData.showable, decide_eq_true_eq]
      have : i.natAbs < 2 ^ 64 := by omega
      rcases Nat.eq_zero_or_pos i.natAbs with z | z
      · rw [z]
        decide
      · have := (Nat.log2_lt (by omega)).mpr this
        omega
  | .str x, h => by
    have h : (reprText x).length ≤ 20 := by simpa [smallD] using h
    refine ⟨by simp only [PyData.shown, nodes]; omega, by simp [PyData.showable], by simp [PyData.hasDict]⟩
  | .list xs, h => by
    obtain ⟨h1, h2, h3⟩ := small_shownAll xs (by simpa [smallD] using h)
    refine ⟨?_, by simpa [PyData.showable] using h2, by simpa [PyData.hasDict] using h3⟩
    have := piled_list (PyData.shownAll xs)
    simp only [PyData.shown, nodes]
    omega
  | .tuple xs, h => by
    obtain ⟨h1, h2, h3⟩ := small_shownAll xs (by simpa [smallD] using h)
    refine ⟨?_, by simpa [PyData.showable] using h2, by simpa [PyData.hasDict] using h3⟩
    have := piled_tup (PyData.shownAll xs)
    simp only [PyData.shown, nodes]
    omega
  | .dict kvs, h => by simp [smallD] at h
theorem small_shownAll : ∀ ds : List PyData, smallAll ds = true → piled (PyData.shownAll ds) ≤ 26 * nodesAll ds ∧ PyData.showableAll ds = true ∧ PyData.hasDictAll ds = false
  | [], _ => ⟨by simp [PyData.shownAll, nodesAll, piled], by simp [PyData.showableAll], by simp [PyData.hasDictAll]⟩
  | d :: ds, h => by
    have h : smallD d = true ∧ smallAll ds = true := by simpa [smallAll] using h
    obtain ⟨a1, a2, a3⟩ := small_shown d h.1
    obtain ⟨b1, b2, b3⟩ := small_shownAll ds h.2
    refine ⟨?_, by simp [PyData.showableAll, a2, b2], by simp [PyData.hasDictAll, a3, b3]⟩
    simp only [PyData.shownAll, nodesAll, piled_cons]
    omega
end
/-- data that repr may show -/
def ShowOk (d : PyData) : Prop := smallD d = true ∧ nodes d ≤ 600000 ∧ d.depth ≤ 60
instance (d : PyData) : Decidable (ShowOk d) := by unfold ShowOk; infer_instance
def rRepr : List V → Hp → VK → Prop := fun xs H Q => ∃ (a : Addr) (d : PyData), xs = [.ref a] ∧ Rp H (.ref a) d ∧ ShowOk d ∧ Q (.str d.shown) H
theorem call_reprD {X : Cx} (hg : X.A.guards = some []) (hu : X.A.units + 64 < cLine) : CallR X (.builtin "repr") rRepr := by
  intro pins s σ H xs us Q I r h
  obtain ⟨a, d, rfl, rp, ⟨ok, nd, dp⟩, q⟩ := h
  obtain ⟨h1, h2, h3⟩ := small_shown d ok
  cases r with
  | cons ra rn =>
    cases rn
    cases ra
    obtain ⟨as, reads⟩ := Dp.reads I d _ _ rp.dp rfl
    refine repr_of_reads' reads h2 (PyData.noDict_hsm h3) hg (by omega) (fun _ _ e => e) (fun h' u tk k => ⟨.str d.shown, H, I.kept k, ⟨u, rfl⟩, q⟩) ?_
    show d.shown.length ≤ 2 ^ 24
    omega
/-- small data: nodes, depth -/
def Sm (n k : Nat) (d : PyData) : Prop := smallD d = true ∧ nodes d ≤ n ∧ d.depth ≤ k
theorem Sm.imp {n k n' k' : Nat} {d : PyData} (h : Sm n k d) (a : n ≤ n') (b : k ≤ k') : Sm n' k' d := ⟨h.1, Nat.le_trans h.2.1 a, Nat.le_trans h.2.2 b⟩
theorem Sm.show {n k : Nat} {d : PyData} (h : Sm n k d) (a : n ≤ 600000 := by decide) (b : k ≤ 60 := by decide) : ShowOk d := h.imp a b
theorem sm_non : Sm 1 0 .none := ⟨by simp [smallD], by simp [nodes], by simp [PyData.depth]⟩
theorem sm_bool (b : Bool) : Sm 1 0 (.bool b) := ⟨by simp [smallD], by simp [nodes], by simp [PyData.depth]⟩
theorem sm_int {i : Int} (h : -10000000000000000000 < i ∧ i < 10000000000000000000) : Sm 1 0 (.int i) := ⟨by simp only [smallD, decide_eq_true_eq]; omega, by simp [nodes], by simp [PyData.depth]⟩
theorem sm_all {α : Type} {f : α → PyData} {n k : Nat} : ∀ {xs : List α}, (∀ x ∈ xs, Sm n k (f x)) → smallAll (xs.map f) = true ∧ nodesAll (xs.map f) ≤ xs.length * n ∧ PyData.depthAll (xs.map f) ≤ k
  | [], _ => ⟨by simp [smallAll], by simp [nodesAll], by simp [PyData.depthAll]⟩
  | x :: xs, h => by
    obtain ⟨a1, a2, a3⟩ := h x List.mem_cons_self
    obtain ⟨b1, b2, b3⟩ := sm_all fun y hy => h y (List.mem_cons_of_mem _ hy)
    refine ⟨by simp [smallAll, a1, b1], ?_, ?_⟩
    · simp only [List.map_cons, nodesAll, List.length_cons, Nat.succ_mul]
      omega
    · simp only [List.map_cons, PyData.depthAll]
      omega
theorem sm_L {α : Type} {f : α → PyData} {n k m : Nat} {xs : List α} (h : ∀ x ∈ xs, Sm n k (f x)) (hm : xs.length ≤ m) : Sm (1 + m * n) (k + 1) (encL f xs) := by
  obtain ⟨a1, a2, a3⟩ := sm_all h
  refine ⟨by simp [encL, smallD, a1], ?_, ?_⟩
  · have := Nat.mul_le_mul_right n hm
    simp only [encL, nodes]
    omega
  · simp only [encL, PyData.depth]
    omega
theorem sm_ints {xs : List Int} {m : Nat} (h : ∀ x ∈ xs, -10000000000000000000 < x ∧ x < 10000000000000000000) (hm : xs.length ≤ m) : Sm (1 + m * 1) 1 (encL PyData.int xs) := sm_L (fun x hx => sm_int (h x hx)) hm
theorem sm_T2 {α β : Type} {f : α → PyData} {g : β → PyData} {n k m j : Nat} {p : α × β} (h1 : Sm n k (f p.1)) (h2 : Sm m j (g p.2)) : Sm (1 + n + m) (max k j + 1) (encT2 f g p) := by
  obtain ⟨a1, a2, a3⟩ := h1
  obtain ⟨b1, b2, b3⟩ := h2
  refine ⟨by simp [encT2, smallD, smallAll, a1, b1], ?_, ?_⟩
  · simp only [encT2, nodes, nodesAll]
    omega
  · simp only [encT2, PyData.depth, PyData.depthAll]
    omega
theorem sm_T3 {α β γ : Type} {f : α → PyData} {g : β → PyData} {h : γ → PyData} {n k m j l i : Nat} {p : α × β × γ} (h1 : Sm n k (f p.1)) (h2 : Sm m j (g p.2.1)) (h3 : Sm l i (h p.2.2)) : Sm (1 + n + m + l) (max k (max j i) + 1) (encT3 f g h p) := by
  obtain ⟨a1, a2, a3⟩ := h1
  obtain ⟨b1, b2, b3⟩ := h2
  obtain ⟨c1, c2, c3⟩ := h3
  refine ⟨by simp [encT3, smallD, smallAll, a1, b1, c1], ?_, ?_⟩
  · simp only [encT3, nodes, nodesAll]
    omega
  · simp only [encT3, PyData.depth, PyData.depthAll]
    omega
end Vx
namespace Vx
open PySem PySem.Spec PyProof.Rows L2
theorem new_ne2 {H : Hp} {L : List Addr} {x : Addr} (n : ∀ b ∈ L, H b = none) (h : H x ≠ none) : ∀ b ∈ L, b ≠ x := fun b hb z => h (z ▸ n b hb)
theorem upd_tree {α : Type} {f : α → Dt} {G H H' : Hp} {L L1 : List Addr} {vs : List V} {xs : List α} {k : Int} {v : V} {m : Addr} {y : α} (up : ∀ H' y, (∀ b ∈ L, b ∉ L1 → ∀ o, H b = some o → H' b = some o) → Ow G H' L1 v (f y) → OwAll G H' L vs ((setL xs k y).map f)) (x : SameX m H H') (hm : m ∈ L1) (w : Ow G H' L1 v (f y)) :
    OwAll G H' L vs ((setL xs k y).map f) := up H' y (fun c _ n o q => x c o q (fun z => n (z ▸ hm))) w
theorem Ow.toFrz {α : Type} {f : α → PyData} {G H : Hp} {L : List Addr} {v : V} {x : α} (w : Ow G H L v (oF f x)) : L = [] ∧ Rp G v (f x) := by
  unfold oF at w
  cases w with
  | frz r => exact ⟨rfl, r⟩
section
variable {α : Type} {f : α → Dt} {G H : Hp} {L : List Addr} {vs : List V} {xs : List α}
theorem OwAll.pin {i : Nat} {v : V} {x : α} (w : OwAll G H L vs (xs.map f)) (h : vs[i]? = some v) (hx : xs[i]? = some x) : ∃ L1, Ow G H L1 v (f x) ∧ ∀ b ∈ L1, b ∈ L := by
  obtain ⟨y, L1, h1, h2, h3⟩ := OwAll.turn w h
  rw [hx] at h1
  cases h1
  exact ⟨L1, h2, h3⟩
theorem OwAll.pinInts {i : Nat} {b : Addr} {xs : List (List Int)} {x : List Int} (w : OwAll G H L vs (xs.map (oL oI))) (h : vs[i]? = some (.ref b)) (hx : xs[i]? = some x) : H b = some (.lst (x.map V.int)) ∧ b ∈ L := by
  obtain ⟨L1, w1, h1⟩ := OwAll.pin w h hx
  obtain ⟨c, e, rfl, h2⟩ := Ow.toInts w1
  cases e
  exact ⟨h2, h1 _ List.mem_cons_self⟩
end
end Vx
namespace Vx
open PySem PySem.Spec PyProof.Rows L2
theorem lookup_relab {c : Str → Bool} {y : Str} : ∀ l : List (Str × NameKind), (l.lookup y = some .cell ∨ l.lookup y = some .free) →
    ((l.map fun (n, k) => if (k == .free && c n) then (n, NameKind.cell) else (n, k)).lookup y = some .cell ∨ (l.map fun (n, k) => if (k == .free && c n) then (n, NameKind.cell) else (n, k)).lookup y = some .free)
  | [], h => by simp at h
  | (n, k) :: r, h => by
    rw [List.map_cons]
    dsimp only
    by_cases e : y == n
    · have hk : k = .cell ∨ k = .free := by
        rw [List.lookup_cons, e] at h
        simpa using h
      by_cases q : (k == .free && c n) = true
      · left
        rw [if_pos q, List.lookup_cons, e]
      · rw [if_neg q, List.lookup_cons, e]
        simpa using hk
    · have e : (y == n) = false := by simpa using e
      rw [List.lookup_cons, e] at h
      have ih := lookup_relab (c := c) r h
      by_cases q : (k == .free && c n) = true
      · rw [if_pos q, List.lookup_cons, e]
        exact ih
      · rw [if_neg q, List.lookup_cons, e]
        exact ih
theorem blk_relabel {N : List Str} {sc scope : Scope} {env : Env} {own : List (Str × Nat)} (h : BlkOk N sc scope own) : BlkOk N (relabel sc env) scope own := by
  refine ⟨h.kind, h.uniq, h.ix, fun y hy e => ?_, h.own⟩
  have z := lookup_relab (c := fun n => env.scope.kind == .function && env.kindOf n == some .cell) (y := y.1) sc.names (h.free y hy e)
  unfold relabel
  simpa only [Bool.and_assoc] using z
end Vx
namespace Vx
open PySem PySem.Spec PyProof.Rows L2
theorem FnG.low {P : Program} {w : World} {K : PySem.W.Frag} {mg : Str → Option Value} {base : Heap} {cx : CXT} {j k : Nat} {f : Addr} {fd : FuncData} {ps : List Str} {sp : Sp} (F : FnG P w K mg base cx j f fd ps sp) (h : j ≤ k) : FnG P w K mg base cx k f fd ps sp := ⟨F.len, fun A o s H a us vs Q E r => F.run A o s H a us vs Q E (r.low h)⟩
/-! ### a local name that holds one of several defs -/
structure HeldX (P : Program) (w : World) (K : PySem.W.Frag) (mg : Str → Option Value) (base : Heap) (k n : Nat) (f : Addr) (sp : Sp) : Prop where
  ex : ∃ (fd : FuncData) (ps : List Str), FnG P w K mg base (L2.CX P w) k f fd ps sp ∧ PySem.W.keepIn K (.ref f) = true ∧ Bnd K fd ps n [] (fun vs _ => vs)
theorem HeldX.of {P : Program} {w : World} {K : PySem.W.Frag} {mg : Str → Option Value} {base : Heap} {j k n : Nat} {x : Str} {sp : Sp} {pats : List Pat} {a : Addr} (c : CalX P w K mg base j x sp pats) (hx : mg x = some (.ref a)) (hp : (n, [], fun vs _ => vs) ∈ pats) (hj : j ≤ k) : HeldX P w K mg base k n a sp := by
  obtain ⟨f, fd, ps, F, hm, kp, b⟩ := c.ex
  rw [hx] at hm
  injection hm with hm
  injection hm with hm
  subst hm
  exact ⟨fd, ps, F.low hj, kp, b _ hp⟩
def tCallF (i n : Nat) (L : List (Addr × Sp)) (W : WX) (t : TA) : TE := fun σ H Q => ∃ f sp, σ[i]? = some (some (.ref f)) ∧ (f, sp) ∈ L ∧ t σ H fun vs H1 => vs.length = n ∧ ([] : List V).length = 0 ∧ sp vs H1 Q (WE W σ)
theorem vx_callF {X : Cx} {k j i n : Nat} {x : Str} {p pos : Pos} {e : Expr} {es : List Expr} {t : TA} {W : WX} (L : List (Addr × Sp)) (A : ∀ q ∈ L, HeldX X.prog X.w X.K X.mg X.base k n q.1 q.2) (hr : RoomG j X.A) (hk : k ≤ j) (tkW : Takes X W) (hN : X.N[i]? = some x) (hv : Vis X.env.scope x) (ha : PA X (e :: es) t)
    (hdb : (x == ("__debug__" : Str)) = false := by decide) (hcd : (x == ("__classdict__" : Str)) = false := by decide) (he : starEach (e :: es) X.env = (false, eval e X.env) :: starEach es X.env := by rfl) (hpl : (backTo pos (starEach es X.env)).any (·.1) = false := by rfl) :
    PE X (.Call (.Name x p) (e :: es) [] pos) (tCallF i n L W t) := by
  constructor
  intro pins s σ H Q I h
  obtain ⟨f, sp, slot, mem, rest⟩ := h
  obtain ⟨fd, ps, F, kp, b⟩ := (A _ mem).ex
  refine wpAny_Call_Name_kw (thn ((pe_var (pos := p) hN hv hdb hcd).run pins s σ H (fun v H1 => v = .ref f ∧ H1 = H) I ⟨.ref f, slot, rfl, rfl⟩) ?_)
  rintro u s1 ⟨v, H1, I1, r1, rfl, rfl⟩
  cases r1
  refine PySem.W.callWith_K (h₀ := X.base) I.ok.mod.kin kp (thn (ha.run pos pins s1 σ _ _ I1 rest) ?_) he hpl
  rintro us s2 ⟨vs, H2, I2, r, l1, l2, q⟩
  exact ⟨I2.kIn, run_X (us := us) (ws := []) (zs := []) F (hr.low hk) b tkW I2 r .nil l1 l2 q⟩
/-! ### the least of a list, the place of an item -/
def minL : List Int → Int
  | [] => 0
  | [x] => x
  | x :: y :: r => if x ≤ minL (y :: r) then x else minL (y :: r)
theorem minL_spec : ∀ (xs : List Int), xs ≠ [] → minL xs ∈ xs ∧ ∀ y ∈ xs, minL xs ≤ y
  | [], h => absurd rfl h
  | [x], _ => ⟨List.mem_cons_self, fun y hy => by rw [List.mem_singleton.mp hy]; exact Int.le_refl x⟩
  | x :: y :: r, _ => by
    obtain ⟨h1, h2⟩ := minL_spec (y :: r) (fun z => nomatch z)
    unfold minL
    split
    · refine ⟨List.mem_cons_self, fun z hz => ?_⟩
      rcases List.mem_cons.mp hz with rfl | hz
      · exact Int.le_refl _
      · have := h2 z hz
        omega
    · refine ⟨List.mem_cons_of_mem _ h1, fun z hz => ?_⟩
      rcases List.mem_cons.mp hz with rfl | hz
      · omega
      · exact h2 z hz
def maxL (xs : List Int) : Int := -(minL (xs.map fun x => -x))
theorem maxL_spec (xs : List Int) (h : xs ≠ []) : maxL xs ∈ xs ∧ ∀ y ∈ xs, y ≤ maxL xs := by
  obtain ⟨h1, h2⟩ := minL_spec (xs.map fun x => -x) (by simpa using h)
  obtain ⟨z, hz, e⟩ := List.mem_map.mp h1
  unfold maxL
  refine ⟨by rw [← e, Int.neg_neg]; exact hz, fun y hy => ?_⟩
  have := h2 _ (List.mem_map_of_mem hy)
  omega
section
variable {X : Cx} {K : PySem.W.Frag}
def rMinL (K : PySem.W.Frag) : List V → Hp → VK → Prop := fun vs H Q => ∃ (a : Addr) (ns : List Int), vs = [V.ref a] ∧ SqL K H a (ns.map V.int) ∧ ns ≠ [] ∧ Q (.int (minL ns)) H
def rMaxL (K : PySem.W.Frag) : List V → Hp → VK → Prop := fun vs H Q => ∃ (a : Addr) (ns : List Int), vs = [V.ref a] ∧ SqL K H a (ns.map V.int) ∧ ns ≠ [] ∧ Q (.int (maxL ns)) H
theorem cr_minL (hc : X.calm = true) (hK : X.K = K := by rfl) : CallR X (.builtin "min") (rMinL K) := by
  subst hK
  intro pins s σ H vs us Q I r h
  obtain ⟨a, ns, rfl, hs, hn, q⟩ := h
  refine cr_min hc pins s σ H _ us Q I r ⟨a, ns, rfl, hs, List.length_pos_iff.mpr hn, fun m hm hle => ?_⟩
  obtain ⟨h1, h2⟩ := minL_spec ns hn
  have e : m = minL ns := Int.le_antisymm (by have := hle _ h1; omega) (h2 m hm)
  rw [e]
  exact q
theorem cr_maxL (hc : X.calm = true) (hK : X.K = K := by rfl) : CallR X (.builtin "max") (rMaxL K) := by
  subst hK
  intro pins s σ H vs us Q I r h
  obtain ⟨a, ns, rfl, hs, hn, q⟩ := h
  refine cr_max hc pins s σ H _ us Q I r ⟨a, ns, rfl, hs, List.length_pos_iff.mpr hn, fun m hm hle => ?_⟩
  obtain ⟨h1, h2⟩ := maxL_spec ns hn
  have e : m = maxL ns := Int.le_antisymm (h2 m hm) (by have := hle _ h1; omega)
  rw [e]
  exact q
end
end Vx
namespace Vx
open PySem PySem.Spec PyProof.Rows L2
def idxL (ns : List Int) (i : Int) : Int := (ns.idxOf i : Nat)
def rIndexI (K : PySem.W.Frag) : V → List V → Hp → VK → Prop := fun x xs H Q => ∃ (a : Addr) (ns : List Int) (i : Int), x = V.ref a ∧ xs = [.int i] ∧ SqL K H a (ns.map V.int) ∧ i ∈ ns ∧ Q (.int (idxL ns i)) H
theorem mt_indexI {X : Cx} {K : PySem.W.Frag} (hK : X.K = K := by rfl) : MtR X "list.index" (rIndexI K) := by
  subst hK
  intro pins s σ H x xs v us Q I rx rxs h
  obtain ⟨a, ns, i, rfl, rfl, hs, hi, q⟩ := h
  have hl := List.idxOf_lt_length_of_mem hi
  refine mt_index pins s σ H _ _ v us Q I rx rxs ⟨a, _, .int i, ns.idxOf i, .int i, rfl, rfl, hs, rfl, flat_ints ns, ?_, by simp [eqV], fun m z hm hz => ?_, q⟩
  · rw [List.getElem?_map, List.getElem?_eq_getElem hl, List.getElem_idxOf hl] <;> rfl
  · rw [List.getElem?_map] at hz
    cases e : ns[m]? with
    | none => rw [e] at hz; cases hz
    | some y =>
      rw [e] at hz
      cases hz
      have hml : m < ns.length := by omega
      have hy : ns[m] = y := by
        rw [List.getElem?_eq_getElem hml] at e
        exact Option.some.inj e
      have := List.not_of_lt_findIdx (p := (· == i)) (xs := ns) (i := m) hm
      simp only [beq_iff_eq, hy] at this
      simp [eqV, this]
theorem cW_aftgo {σ ρ τ : Type} {s : σ} {kr : ρ → Rx τ} {k : σ → Rx τ} {K : τ → Prop} {E : Nat → Prop} (h : cW ((Lp.go s : Lp σ ρ).aft kr k) K E) : cW (k s) K E := h
end Vx
namespace Vx
open PySem PySem.Spec PyProof.Rows L2
/-! ### a truth value or a number beside a number -/
def Bi.num : Bi → Int
  | .b x => if x then 1 else 0
  | .n i => i
def Bi.dat : Bi → PyData
  | .b x => .bool x
  | .n i => .int i
section
variable {X : Cx}
def rEqBI : R2 := fun x y H Q => ∃ (b : Bi) (i : Int), x = biV b ∧ y = .int i ∧ Q (.bl (decide (b.num = i))) H
def rNeBI : R2 := fun x y H Q => ∃ (b : Bi) (i : Int), x = biV b ∧ y = .int i ∧ Q (.bl (!decide (b.num = i))) H
theorem eqv_bi (b : Bi) (i : Int) : PyData.eqv b.dat (.int i) = decide (b.num = i) := by
  cases b with
  | b x => cases x <;> (rw [Bool.eq_iff_iff]; simp [Bi.dat, Bi.num, PyData.eqv])
  | n j =>
    rw [Bool.eq_iff_iff]
    simp only [Bi.dat, Bi.num, PyData.eqv, beq_iff_eq]
    exact decide_eq_true_iff.symm
theorem dp_bi {K : PySem.W.Frag} {H : Hp} : ∀ b : Bi, Dp K H (biV b) b.dat
  | .b x => .bl x
  | .n i => .int i
theorem shaped_bi : ∀ b : Bi, SeqAt.shaped b.dat = true
  | .b x => by unfold SeqAt.shaped; simp [Bi.dat, PyData.canLay0, PyData.depth]
  | .n i => by unfold SeqAt.shaped; simp [Bi.dat, PyData.canLay0, PyData.depth]
theorem op_eqBI (hu : X.A.units + 64 < cLine) : OpR X (compareOp .Eq) rEqBI := by
  intro pins s σ H x y v u Q I rx ry h
  obtain ⟨b, i, rfl, rfl, q⟩ := h
  exact op_eqD hu pins s σ H _ _ v u Q I rx ry ⟨b.dat, .int i, dp_bi b, .int i, shaped_bi b, shaped_bi (.n i), by rw [eqv_bi]; exact q⟩
theorem op_neBI (hu : X.A.units + 64 < cLine) : OpR X (compareOp .NotEq) rNeBI := by
  intro pins s σ H x y v u Q I rx ry h
  obtain ⟨b, i, rfl, rfl, q⟩ := h
  exact op_neD hu pins s σ H _ _ v u Q I rx ry ⟨b.dat, .int i, dp_bi b, .int i, shaped_bi b, shaped_bi (.n i), by rw [eqv_bi]; exact q⟩
end
end Vx
namespace Vx
open PySem PySem.Spec PyProof.Rows L2
/-! ### == of own objects by an own __eq__ that never raises -/
section
variable {X : Cx} {k j : Nat}
def rEqX (C : Addr) (n mm : Nat) (sp : Sp) (g : List V → List V → List V) : R2 := fun x y H Q => ∃ (a b dx dy : Addr) (fs gs : List (Str × V)), x = .ref a ∧ y = .ref b ∧ H a = some (.ins C dx fs) ∧ H b = some (.ins C dy gs) ∧ 2 = n ∧ 0 = mm ∧ sp (g [x, y] []) H (fun v H' => (∃ r, v = .bl r) ∧ Q v H') E0
theorem op_eqX {C : Addr} {sp : Sp} {pats : List Pat} (c : MetX X.prog X.w X.K X.mg X.base k C "__eq__" sp pats) (pt : Pat) (hpt : pt ∈ pats) (hr : RoomG j X.A) (hk : k ≤ j) (hks : pt.2.1 = [] := by rfl) : OpR X (compareOp .Eq) (rEqX C pt.1 pt.2.1.length sp pt.2.2) := by
  intro pins s σ H x y v u Q I rx ry hq
  obtain ⟨a, b, dx, dy, fs, gs, rfl, rfl, ha, hb', l1, l2, q⟩ := hq
  obtain ⟨f, fd, ps, hc, hm, F, bb⟩ := c.ex
  cases rx
  cases ry
  obtain ⟨mA, J, _⟩ := ins_get I.hok ha
  obtain ⟨mB, J', _⟩ := ins_get I.hok hb'
  obtain ⟨od, J, _⟩ := J.look
  obtain ⟨od', J', _⟩ := J'.look
  obtain ⟨m, hF⟩ := I.fr
  have hz := run_X (us := [.ref a, .ref b]) (vs := [.ref a, .ref b]) (ws := []) (zs := []) F (hr.low hk) (bb pt hpt) (takes0 (X := X)) I (.cons rfl (.cons rfl .nil)) .nil l1 l2 q
  rw [hks] at hz
  show wpAny (model X.prog X.w) X.A (richCompare .Eq (.ref a) (.ref b)) (EP X pins σ Q) X.xe s
  refine PySem.W.cmp_K (op := .Eq) (tb := .ref C) (hr.low hk).toRoom.units0 hF I.ok.mod.kin J J'.type (by simp [PySem.W.notFirst]) hm.at_ hm.fn ?_
  refine wpAny_mono hz (fun r s' z => ?_) fun _ _ e => e
  obtain ⟨w, H', I', rw', ⟨⟨q1, rfl⟩, q2⟩⟩ := z
  cases rw'
  exact ⟨V.bl q1, H', I', rfl, q2⟩
end
end Vx
namespace Vx
open PySem PySem.Spec PyProof.Rows L2
/-! ### isinstance of the exception in hand: a built-in class, a tuple of classes -/
theorem kit_blt {K : PySem.W.Frag} {D : Addr} {T : String} {b : Bool} (h : PySem.W.subIn K (.ref D) (.type T) = some b) (h0 : PySem.W.kitMeta T = true := by decide +kernel) : PySem.W.kitOne K (.ref D) (.type T) = some b := by
  unfold PySem.W.kitOne
  rw [if_neg (show ¬ (Value.ref D == Value.type T) = true from fun z => nomatch (show false = true from z))]
  show (if PySem.W.kitMeta T = true then PySem.W.subIn K (.ref D) (.type T) else none) = some b
  rw [if_pos h0, h]
def rIsXB (K : PySem.W.Frag) (a : Addr) (cls : Value) (d : Option Addr) : List V → Hp → VK → Prop := fun xs H Q => ∃ (D : Addr) (T : String) (b : Bool), cls = .ref D ∧ d = none ∧ ExcC K D ∧ xs = [.ref a, .ty T] ∧ PySem.W.kitOne K (.ref D) (.type T) = some b ∧ Q (.bl b) H
theorem call_isXB {X : Cx} {K : PySem.W.Frag} {a : Addr} {cls : Value} {d : Option Addr} {oe : Obj} {pn : List (Addr × Obj)} (hz : Zc cls d oe) (hf : ∃ vs, oe.data = .fields vs) (hK : X.K = K := by rfl) : CallR (X.suite a ((a, oe) :: pn)) (.builtin "isinstance") (rIsXB K a cls d) := by
  subst hK
  intro pins s σ H xs us Q I r h
  obtain ⟨D, T, b, rfl, rfl, c, rfl, e, q⟩ := h
  exact call_isE c hz hf pins s σ H _ us Q I r ⟨_, _, b, rfl, fun u z => z, e, q⟩
def rIsXT (K : PySem.W.Frag) (a : Addr) (cls : Value) (d : Option Addr) : List V → Hp → VK → Prop := fun xs H Q => ∃ (D tp : Addr) (cs : List V) (ws : List Value) (b : Bool), cls = .ref D ∧ d = none ∧ ExcC K D ∧ xs = [.ref a, .ref tp] ∧ H tp = some (.tup cs) ∧ Paired ClsV cs ws ∧ PySem.W.kitAny K (.ref D) ws = some b ∧ Q (.bl b) H
theorem call_isXT {X : Cx} {K : PySem.W.Frag} {a : Addr} {cls : Value} {d : Option Addr} {oe : Obj} {pn : List (Addr × Obj)} (hz : Zc cls d oe) (hf : ∃ vs, oe.data = .fields vs) (hK : X.K = K := by rfl) : CallR (X.suite a ((a, oe) :: pn)) (.builtin "isinstance") (rIsXT K a cls d) := by
  subst hK
  intro pins s σ H xs us Q I r h
  obtain ⟨D, tp, cs, ws, b, rfl, rfl, C, rfl, hT, k, e, q⟩ := h
  cases r with
  | cons rx rr =>
    cases rr with
    | cons rt rr =>
      cases rr
      cases rx
      cases rt
      obtain ⟨hget, _⟩ := I.pin (a, oe) (List.mem_append.mpr (.inl List.mem_cons_self))
      obtain ⟨vs, hv⟩ := hf
      have J : PySem.W.InstAt s.heap a oe D none := by
        obtain ⟨oc, od, oda, osl⟩ := oe
        obtain ⟨h1, h2⟩ := hz
        dsimp only at h1 h2 hv
        subst h1 h2 hv
        exact ⟨hget, rfl, rfl, trivial⟩
      obtain ⟨_, its, rv, o, h1, h2, n, h3⟩ := (show ObjOk X.prog X.w H s.heap tp (.tup cs) from I.hok tp _ hT)
      have e3 := ClsV.all k rv
      subst e3
      obtain ⟨oc, od, dt, sl⟩ := o
      simp only at h2 h3
      subst h2 h3
      exact PySem.W.kia_tup (PySem.W.handS_kitx_exc C.hg C.hk C.hs C.hd C.ha C.hn C.ht C.hm) I.kIn J h1 e (fun z => nomatch z) fun tk => ⟨.bl b, H, I.kept (t' := tk) fun _ _ z => z, rfl, q⟩
theorem kit_self {K : PySem.W.Frag} {t : Value} (h : (t == t) = true := by simp) : PySem.W.kitOne K t t = some true := by
  unfold PySem.W.kitOne
  rw [if_pos h]
/-- what a class must say, so that isinstance asks its objects rightly -/
structure IsiC (K : PySem.W.Frag) (C : Addr) : Prop where
  ha : PySem.W.findIn K (.ref C) "__class__" = some (some (.builtin "object.__class__"))
  hn : PySem.W.specialIn K (.builtin "object.__class__") "__get__" = some (some (.builtin "getset_descriptor.__get__"))
  ht : PySem.W.takesIn K (.builtin "object.__class__") = some true
  hm : PySem.W.mroIn K C (.type "object") = some true
theorem tyX_ins {K : PySem.W.Frag} {H : Hp} {a C dx : Addr} {fs : List (Str × V)} (e : H a = some (.ins C dx fs)) (cl : Cls K C) (c : IsiC K C) : TyX K H (.ref a) (.ref C) := .base (.ins e cl c.ha c.hn c.ht c.hm)
end Vx
namespace Vx
open PySem PySem.Spec PyProof.Rows L2
theorem op_notTrue {X : Cx} : OpR X (compareOp .IsNot) (fun x y H Q => ∃ b : Bool, x = .bl b ∧ y = .bl true ∧ Q (.bl (!b)) H) := by
  intro pins s σ H x y v u Q I rx ry h
  obtain ⟨b, rfl, rfl, q⟩ := h
  cases rx
  cases ry
  show wpAny (model X.prog X.w) X.A (compareOp .IsNot (.bool b) (.bool true)) (EP X pins σ Q) X.xe s
  have e : compareOp .IsNot (.bool b) (.bool true) = pure (.bool (!b)) := by cases b <;> rfl
  rw [e]
  exact wpAny_pure ⟨.bl (!b), H, I, rfl, q⟩
end Vx
/-! # zip of any number of lists, the lists in a list -/
namespace Vz
open PySem PySem.Spec PyProof.Rows L2
/-- the iterators stand at n0, n0 + 1, .., behind them the tuple of iterators, the owned tuple, the zip itself -/
structure ZS (n0 : Nat) (ls : List Addr) (i : Nat) (h : Heap) : Prop where
  z : ∃ (x0 : Value) (f : Bool), (x0 = .none ∨ ∃ T : Nat, x0 = rawInt T) ∧ h.get? (n0 + ls.length + 2) = some { cls := .type "zip", dict := none, data := .fields #[x0, .bool f, .bool false, .ref (n0 + ls.length), .ref (n0 + ls.length + 1)], slots := #[] }
  ti : h.get? (n0 + ls.length) = some { cls := .type "tuple", data := .seq ((List.range ls.length).map fun j => Value.ref (n0 + j)).toArray }
  to : ∃ vs : List Value, vs.length = ls.length ∧ h.get? (n0 + ls.length + 1) = some { cls := .type "tuple", data := .seq vs.toArray }
  its : ∀ (j : Nat) (l : Addr), ls[j]? = some l → h.IsListIter (n0 + j) l i
def Out (n0 n c : Nat) : Prop := c < n0 ∨ n0 + n + 2 < c
section
variable {prog : Program} {w : World} {A : Around} {E : Value → Shared → Prop} {s : Shared}
/-- within a free turn, k iterators having moved on -/
structure FS (n0 : Nat) (ls : List Addr) (us : List Value) (i : Nat) (f : Bool) (h0 : Heap) (k : Nat) (h : Heap) : Prop where
  sz : h.objs.size = h0.objs.size
  out : ∀ c : Nat, Out n0 ls.length c → h.get? c = h0.get? c
  z : h.get? (n0 + ls.length + 2) = some { cls := .type "zip", dict := none, data := .fields #[.ellipsis, .bool f, .bool false, .ref (n0 + ls.length), .ref (n0 + ls.length + 1)], slots := #[] }
  ti : h.get? (n0 + ls.length) = some { cls := .type "tuple", data := .seq ((List.range ls.length).map fun j => Value.ref (n0 + j)).toArray }
  to : ∃ vs : List Value, vs.length = ls.length ∧ vs.take k = us.take k ∧ h.get? (n0 + ls.length + 1) = some { cls := .type "tuple", data := .seq vs.toArray }
  its : ∀ (j : Nat) (l : Addr), ls[j]? = some l → h.IsListIter (n0 + j) l (if j < k then i + 1 else i)
theorem nn {a b : Nat} (h : a ≠ b) : @Ne Addr a b := h
theorem iter_of {h h' : Heap} {a l : Addr} {i : Nat} (x : h.IsListIter a l i) (e : h'.get? a = h.get? a) : h'.IsListIter a l i := x.at fun o q => by rw [e]; exact q
theorem list_of {h h' : Heap} {a : Addr} {items : Array Value} (x : h.IsList a items) (e : h'.get? a = h.get? a) : h'.IsList a items := x.at fun o q => by rw [e]; exact q
theorem take_set {us vs : List Value} {k : Nat} {u : Value} (hl : vs.length = us.length) (ht : vs.take k = us.take k) (hu : us[k]? = some u) : (vs.set k u).take (k + 1) = us.take (k + 1) := by
  have hk : k < us.length := (List.getElem?_eq_some_iff.mp hu).1
  apply List.ext_getElem?
  intro j
  by_cases hj : j < k + 1
  · rw [List.getElem?_take_of_lt hj, List.getElem?_take_of_lt hj]
    by_cases e : j = k
    · subst e
      rw [List.getElem?_set_self (by omega), hu]
    · rw [List.getElem?_set_ne (fun z => e z.symm)]
      have := congrArg (fun l => l[j]?) ht
      simpa [List.getElem?_take_of_lt (show j < k by omega)] using this
  · rw [List.getElem?_take_eq_none (by omega), List.getElem?_take_eq_none (by omega)]
/-- one step of a free turn -/
theorem FS.step {n0 : Nat} {ls : List Addr} {us : List Value} {i k : Nat} {f : Bool} {h0 h h2 h3 : Heap} {u : Value} (F : FS n0 ls us i f h0 k h) (hk : k < ls.length) (hl : us.length = ls.length) (hu : us[k]? = some u) {l : Addr} (hll : ls[k]? = some l)
    (h2i : h2.IsListIter (n0 + k) l (i + 1)) (s2 : Heap.SameBut (n0 + k) h h2) {vs : List Value} (hvl : vs.length = ls.length) (hvt : vs.take k = us.take k) (s3 : Heap.SameBut (n0 + ls.length + 1) h2 h3)
    (e3 : h3.get? (n0 + ls.length + 1) = some { cls := .type "tuple", data := .seq (vs.set k u).toArray }) : FS n0 ls us i f h0 (k + 1) h3 := by
  refine ⟨by rw [s3.1, s2.1, F.sz], fun c hc => ?_, ?_, ?_, ⟨vs.set k u, by rw [List.length_set, hvl], take_set (by rw [hvl, hl]) hvt hu, e3⟩, fun j l' hj => ?_⟩
  · have h1 : (c : Nat) ≠ n0 + ls.length + 1 := by unfold Out at hc; omega
    have h2 : (c : Nat) ≠ n0 + k := by unfold Out at hc; omega
    rw [s3.2 c h1, s2.2 c h2, F.out c hc]
  · rw [s3.2 _ (nn (by omega)), s2.2 _ (nn (by omega))]; exact F.z
  · rw [s3.2 _ (nn (by omega)), s2.2 _ (nn (by omega))]; exact F.ti
  · have hjl : j < ls.length := (List.getElem?_eq_some_iff.mp hj).1
    by_cases e : j = k
    · subst e
      rw [hll] at hj
      cases hj
      rw [if_pos (by omega)]
      exact iter_of h2i (s3.2 _ (nn (by omega)))
    · have := F.its j l' hj
      have q : h3.get? (n0 + j) = h.get? (n0 + j) := by rw [s3.2 _ (nn (by omega)), s2.2 _ (nn (by omega))]
      by_cases hlt : j < k
      · rw [if_pos hlt] at this
        rw [if_pos (by omega)]
        exact iter_of this q
      · rw [if_neg hlt] at this
        rw [if_neg (by omega)]
        exact iter_of this q
/-- within a turn whose tuple is still out -/
structure HS (n0 : Nat) (ls : List Addr) (i : Nat) (x0 : Value) (f : Bool) (h0 : Heap) (k : Nat) (h : Heap) : Prop where
  sz : h.objs.size = h0.objs.size
  out : ∀ c : Nat, Out n0 ls.length c → h.get? c = h0.get? c
  z : h.get? (n0 + ls.length + 2) = some { cls := .type "zip", dict := none, data := .fields #[x0, .bool f, .bool false, .ref (n0 + ls.length), .ref (n0 + ls.length + 1)], slots := #[] }
  ti : h.get? (n0 + ls.length) = some { cls := .type "tuple", data := .seq ((List.range ls.length).map fun j => Value.ref (n0 + j)).toArray }
  to : ∃ vs : List Value, vs.length = ls.length ∧ h.get? (n0 + ls.length + 1) = some { cls := .type "tuple", data := .seq vs.toArray }
  its : ∀ (j : Nat) (l : Addr), ls[j]? = some l → h.IsListIter (n0 + j) l (if j < k then i + 1 else i)
theorem HS.step {n0 : Nat} {ls : List Addr} {i k : Nat} {x0 : Value} {f : Bool} {h0 h h2 : Heap} (F : HS n0 ls i x0 f h0 k h) (hk : k < ls.length) {l : Addr} (hll : ls[k]? = some l)
    (h2i : h2.IsListIter (n0 + k) l (i + 1)) (s2 : Heap.SameBut (n0 + k) h h2) : HS n0 ls i x0 f h0 (k + 1) h2 := by
  obtain ⟨vs, hvl, e⟩ := F.to
  refine ⟨by rw [s2.1, F.sz], fun c hc => ?_, ?_, ?_, ⟨vs, hvl, ?_⟩, fun j l' hj => ?_⟩
  · have h2 : (c : Nat) ≠ n0 + k := by unfold Out at hc; omega
    rw [s2.2 c h2, F.out c hc]
  · rw [s2.2 _ (nn (by omega))]; exact F.z
  · rw [s2.2 _ (nn (by omega))]; exact F.ti
  · rw [s2.2 _ (nn (by omega))]; exact e
  · have hjl : j < ls.length := (List.getElem?_eq_some_iff.mp hj).1
    by_cases e : j = k
    · subst e
      rw [hll] at hj
      cases hj
      rw [if_pos (by omega)]
      exact h2i
    · have := F.its j l' hj
      have q : h2.get? (n0 + j) = h.get? (n0 + j) := s2.2 _ (nn (by omega))
      by_cases hlt : j < k
      · rw [if_pos hlt] at this
        rw [if_pos (by omega)]
        exact iter_of this q
      · rw [if_neg hlt] at this
        rw [if_neg (by omega)]
        exact iter_of this q
end
theorem drop_cons {α : Type} {x : α} {rest l : List α} {k : Nat} (e : x :: rest = l.drop k) : l[k]? = some x ∧ rest = l.drop (k + 1) := by
  constructor
  · have := congrArg (fun q => q[0]?) e
    simpa using this.symm
  · have := congrArg List.tail e
    simpa [List.tail_drop] using this
theorem zi_at {n n0 k : Nat} {x : Value × Nat} (h : (((List.range n).map fun j => Value.ref (n0 + j)).zipIdx)[k]? = some x) : k < n ∧ x = (Value.ref (n0 + k), k) := by
  rw [List.getElem?_zipIdx, List.getElem?_map] at h
  by_cases hk : k < n
  · rw [List.getElem?_range hk] at h
    simp at h
    exact ⟨hk, h.symm⟩
  · rw [List.getElem?_eq_none (by simpa using hk)] at h
    cases h
theorem it_at {n n0 k : Nat} {x : Value} (h : ((List.range n).map fun j => Value.ref (n0 + j))[k]? = some x) : k < n ∧ x = Value.ref (n0 + k) := by
  rw [List.getElem?_map] at h
  by_cases hk : k < n
  · rw [List.getElem?_range hk] at h
    simp at h
    exact ⟨hk, h.symm⟩
  · rw [List.getElem?_eq_none (by simpa using hk)] at h
    cases h
section
variable {prog : Program} {w : World} {A : Around} {E : Value → Shared → Prop} {s : Shared}
theorem alive {a : Addr} {Q : Option Obj → Shared → Prop} (h : Q (s.heap.get? a) s) : wpAny (model prog w) A (loadIfAlive a) Q E s := fun _ _ _ => h
/-- what is asked of the lists: all have an item at i; or one has none -/
def Has (h : Heap) (ls : List Addr) (i : Nat) (us : List Value) : Prop := ∀ (j : Nat) (l : Addr) (u : Value), ls[j]? = some l → us[j]? = some u → ∃ xs : Array Value, h.IsList l xs ∧ xs[i]? = some u
theorem next_item {n0 : Nat} {ls : List Addr} {us : List Value} {i : Nat} {Q : Value → Shared → Prop} (hne : ls ≠ []) (hsz : ls.length ≤ 1000000) (st : ZS n0 ls i s.heap) (hl : us.length = ls.length) (low : ∀ l ∈ ls, (l : Nat) < n0)
    (hi : Has s.heap ls i us)
    (hQ : ∀ h', ZS n0 ls (i + 1) h' → h'.get? s.heap.objs.size = some { cls := .type "tuple", data := .seq us.toArray } → h'.objs.size = s.heap.objs.size + 1 →
      (∀ c : Nat, Out n0 ls.length c → ∀ o, s.heap.get? c = some o → h'.get? c = some o) → Q (.ref s.heap.objs.size) { s with heap := h' }) :
    wpAny (model prog w) A (Builtin.«zip.__next__» ⟨[.ref (n0 + ls.length + 2)], []⟩) (fun fin s' => ∃ v, fin = .done (.ret v) ∧ Q v s') E s := by
  obtain ⟨⟨x0, f, hx0, hz⟩, hTI, ⟨vs, hvl, hTO⟩, hits⟩ := st
  have hnz : 0 < ls.length := by cases ls with | nil => exact absurd rfl hne | cons a r => exact Nat.succ_pos _
  have hb : s.heap.objs.size > n0 + ls.length + 2 := Heap.lt_size hz
  show wpAny _ _ (field (.ref (n0 + ls.length + 2)) 2 >>= _) _ _ _
  refine wpAny_bind (wpAny_field hz rfl (x := .bool false) rfl ?_)
  show wpAny _ _ (field (.ref (n0 + ls.length + 2)) 3 >>= _) _ _ _
  refine wpAny_bind (wpAny_field hz rfl (x := .ref (n0 + ls.length)) rfl ?_)
  refine wpAny_bind (wpAny_seqItems hTI rfl ?_)
  have hemp : (((List.range ls.length).map fun j => Value.ref (n0 + j)).toArray).isEmpty = false := by
    simp
    intro z; exact hne z
  simp only []
  rw [if_neg (by rw [hemp]; exact Bool.false_ne_true)]
  show wpAny _ _ (Builtin.SmallTypes.ownedTupleIsFree (.ref (n0 + ls.length + 2)) >>= _) _ _ _
  refine wpAny_bind ?_
  -- two ways
  refine wpAny_mono (Q := fun b s' => (b = true ∧ s' = s) ∨ (b = false ∧ ∃ h f', s' = { s with heap := h } ∧ Heap.SameBut (n0 + ls.length + 2) s.heap h ∧ h.get? (n0 + ls.length + 2) = some { cls := .type "zip", dict := none, data := .fields #[x0, .bool f', .bool false, .ref (n0 + ls.length), .ref (n0 + ls.length + 1)], slots := #[] })) (E := fun _ _ => False) ?_ ?_ (fun _ _ z => z.elim)
  · unfold Builtin.SmallTypes.ownedTupleIsFree
    rcases hx0 with rfl | ⟨T, rfl⟩
    · exact wpAny_bind (wpAny_field hz rfl (x := .none) rfl (wpAny_pure (.inl ⟨rfl, rfl⟩)))
    · refine wpAny_bind (wpAny_field hz rfl (x := rawInt T) rfl ?_)
      show wpAny _ _ (loadIfAlive ((T : Int).toNat) >>= _) _ _ _
      rw [Int.toNat_natCast]
      refine wpAny_bind ?_
      cases hT : s.heap.get? T with
      | none =>
        refine alive ?_
        rw [hT]
        simp only [Option.isNone_none, if_true]
        exact wpAny_pure (.inl ⟨rfl, rfl⟩)
      | some oT =>
        refine alive ?_
        rw [hT]
        simp only [Option.isNone_some, Bool.false_eq_true, if_false]
        refine wpAny_bind (wpAny_field hz rfl (x := .bool f) rfl ?_)
        cases f with
        | true =>
          rw [if_neg (show ¬ ((Value.bool true != Value.bool true) = true) from Bool.false_ne_true)]
          exact wpAny_pure (.inr ⟨rfl, s.heap, true, rfl, Heap.SameBut.refl _ _, hz⟩)
        | false =>
          rw [if_pos (show (Value.bool false != Value.bool true) = true from rfl)]
          exact wpAny_bind (wpAny_setField_rec hz (by simp) fun h₁ hz₁ hs₁ => wpAny_pure (.inr ⟨rfl, h₁, true, rfl, hs₁, hz₁⟩))
  rintro b s1 (⟨rfl, rfl⟩ | ⟨rfl, h₀, f', rfl, hs₀, hz₀⟩)
  · -- the tuple is free
    simp only [if_true]
    refine wpAny_bind (wpAny_rule ?_)
    refine wpAny_bind (wpAny_field hz rfl (x := .ref (n0 + ls.length + 1)) rfl ?_)
    refine wpAny_bind (wpAny_setField_rec hz (by simp) fun h₁ hz₁ hs₁ => ?_)
    refine wpAny_bind ?_
    have F0 : FS n0 ls us i f s1.heap 0 h₁ := by
      refine ⟨hs₁.1, fun c hc => hs₁.2 c (nn (by unfold Out at hc; omega)), hz₁, ?_, ⟨vs, hvl, by simp, ?_⟩, fun j l hj => ?_⟩
      · rw [hs₁.2 _ (nn (by omega))]; exact hTI
      · rw [hs₁.2 _ (nn (by omega))]; exact hTO
      · have hjl : j < ls.length := (List.getElem?_eq_some_iff.mp hj).1
        rw [if_neg (Nat.not_lt_zero _)]
        exact iter_of (hits j l hj) (hs₁.2 _ (nn (by omega)))
    refine wpAny_forIn_list _ (fun rest b s' => ∃ k h, b = (none, ()) ∧ rest = (((List.range ls.length).map fun j => Value.ref (n0 + j)).zipIdx).drop k ∧ k ≤ ls.length ∧ s' = { s1 with heap := h } ∧ FS n0 ls us i f s1.heap k h) _ ?_ ?_ _ _ ⟨0, h₁, rfl, rfl, Nat.zero_le _, rfl, F0⟩
    · rintro x rest b _ ⟨k, h, rfl, hrest, hk, rfl, F⟩
      obtain ⟨hx, hr⟩ := drop_cons hrest
      obtain ⟨hkl, rfl⟩ := zi_at hx
      obtain ⟨l, hll⟩ : ∃ l, ls[k]? = some l := ⟨_, List.getElem?_eq_getElem hkl⟩
      obtain ⟨u, hu⟩ : ∃ u, us[k]? = some u := ⟨_, List.getElem?_eq_getElem (by omega)⟩
      obtain ⟨xs, hxs, hxi⟩ := hi k l u hll hu
      have lo := low l (List.mem_of_getElem? hll)
      have hit := F.its k l hll
      rw [if_neg (Nat.lt_irrefl _)] at hit
      refine wpAny_bind (wpAny_onRaise ?_)
      show wpAny _ _ (Builtin.SmallTypes.nextOf (.ref (n0 + k)) >>= _) _ _ _
      refine wpAny_bind (wpAny_nextOf_list_item hit (list_of hxs (F.out l (.inl lo))) hxi fun h₂ h2i hs₂ => wpAny_pure ?_)
      obtain ⟨vs', hvl', hvt', hto'⟩ := F.to
      have hto2 : h₂.get? (n0 + ls.length + 1) = some { cls := .type "tuple", data := .seq vs'.toArray } := by rw [hs₂.2 _ (nn (by omega))]; exact hto'
      refine wpAny_bind (wpAny_seqItems hto2 rfl ?_)
      refine wpAny_bind (wpAny_updateSeq hto2 rfl ?_ (by simp [hvl']; show _ ≤ sizeLine; unfold sizeLine; omega) (by simp [hvl']; show _ ≤ sizeLine + 1; unfold sizeLine; omega))
      refine wpAny_bind (wpAny_letGo (wpAny_pure ?_))
      refine ⟨k + 1, _, rfl, hr, hkl, rfl, F.step hkl hl hu hll h2i hs₂ hvl' hvt' (Heap.SameBut.update ..) ?_⟩
      rw [Heap.get?_update_self _ hto2 rfl]
      simp [Obj.mapSeq]
    · rintro b _ ⟨k, h, rfl, hrest, hk, rfl, F⟩
      have hkn : k = ls.length := by
        have := congrArg List.length hrest
        simp at this
        omega
      subst hkn
      obtain ⟨vs', hvl', hvt', hto'⟩ := F.to
      have hvu : vs' = us := by rw [List.take_of_length_le (by omega), List.take_of_length_le (by omega)] at hvt'; exact hvt'
      subst hvu
      refine wpAny_bind (wpAny_seqItems hto' rfl ?_)
      refine wpAny_bind (wpAny_newTuple ?_ (by simp [hvl']; unfold sizeLine; omega))
      show wpAny _ _ (Builtin.SmallTypes.ownedTupleHandOut (.ref (n0 + ls.length + 2)) (.ref h.objs.size) >>= _) _ _ _
      refine wpAny_bind ?_
      unfold Builtin.SmallTypes.ownedTupleHandOut
      have hz₆ := Heap.get?_push_of_some { cls := .type "tuple", data := .seq vs'.toArray } F.z
      have hTT : (h.push { cls := .type "tuple", data := .seq vs'.toArray }).get? h.objs.size = some { cls := .type "tuple", data := .seq vs'.toArray } := Heap.get?_push_size _ rfl
      refine wpAny_bind (wpAny_setField_rec (s := { s1 with heap := h.push _ }) hz₆ (by simp) fun h₇ hz₇ hs₇ => ?_)
      refine wpAny_setField_rec (s := { s1 with heap := h₇ }) hz₇ (by simp) fun h₈ hz₈ hs₈ => ?_
      have hsz' : h.objs.size = s1.heap.objs.size := F.sz
      have up : ∀ c : Nat, c ≠ n0 + ls.length + 2 → ∀ o, h.get? c = some o → h₈.get? c = some o := fun c c1 o e => by
        rw [hs₈.2 c (nn c1), hs₇.2 c (nn c1)]
        exact Heap.get?_push_of_some _ e
      refine wpAny_pure ⟨_, rfl, ?_⟩
      show Q (.ref h.objs.size) _
      rw [hsz']
      refine hQ h₈ ⟨⟨_, _, .inr ⟨_, rfl⟩, hz₈⟩, up _ (by omega) _ F.ti, ⟨vs', hvl', up _ (by omega) _ hto'⟩, fun j l hj => ?_⟩ ?_ ?_ ?_
      · have hjl : j < ls.length := (List.getElem?_eq_some_iff.mp hj).1
        have := F.its j l hj
        rw [if_pos hjl] at this
        exact this.at fun o q => up _ (by omega) _ q
      · rw [← hsz', hs₈.2 _ (nn (by omega)), hs₇.2 _ (nn (by omega))]
        exact hTT
      · rw [hs₈.1, hs₇.1, Heap.size_push, hsz']
      · intro c hc o q
        have hc' := hc
        unfold Out at hc
        exact up c (by omega) o (by rw [F.out c hc']; exact q)
  · simp only [Bool.false_eq_true, if_false]
    refine wpAny_bind ?_
    have F0 : HS n0 ls i x0 f' s.heap 0 h₀ := by
      refine ⟨hs₀.1, fun c hc => hs₀.2 c (nn (by unfold Out at hc; omega)), hz₀, ?_, ⟨vs, hvl, ?_⟩, fun j l hj => ?_⟩
      · rw [hs₀.2 _ (nn (by omega))]; exact hTI
      · rw [hs₀.2 _ (nn (by omega))]; exact hTO
      · have hjl : j < ls.length := (List.getElem?_eq_some_iff.mp hj).1
        rw [if_neg (Nat.not_lt_zero _)]
        exact iter_of (hits j l hj) (hs₀.2 _ (nn (by omega)))
    rw [← Array.forIn_toList]
    refine wpAny_forIn_list _ (fun rest b s' => ∃ k h, b = (none, (us.take k).toArray) ∧ rest = ((List.range ls.length).map fun j => Value.ref (n0 + j)).drop k ∧ k ≤ ls.length ∧ s' = { s with heap := h } ∧ HS n0 ls i x0 f' s.heap k h) _ ?_ ?_ _ _ ⟨0, h₀, by simp, by simp, Nat.zero_le _, rfl, F0⟩
    · rintro x rest b _ ⟨k, h, rfl, hrest, hk, rfl, F⟩
      obtain ⟨hx, hr⟩ := drop_cons hrest
      obtain ⟨hkl, rfl⟩ := it_at hx
      obtain ⟨l, hll⟩ : ∃ l, ls[k]? = some l := ⟨_, List.getElem?_eq_getElem hkl⟩
      obtain ⟨u, hu⟩ : ∃ u, us[k]? = some u := ⟨_, List.getElem?_eq_getElem (by omega)⟩
      obtain ⟨xs, hxs, hxi⟩ := hi k l u hll hu
      have lo := low l (List.mem_of_getElem? hll)
      have hit := F.its k l hll
      rw [if_neg (Nat.lt_irrefl _)] at hit
      refine wpAny_bind (wpAny_holding ?_)
      show wpAny _ _ (Builtin.SmallTypes.nextOf (.ref (n0 + k)) >>= _) _ _ _
      refine wpAny_bind (wpAny_nextOf_list_item hit (list_of hxs (F.out l (.inl lo))) hxi fun h₂ h2i hs₂ => wpAny_pure ?_)
      refine wpAny_pure ⟨k + 1, h₂, ?_, hr, hkl, rfl, F.step hkl hll h2i hs₂⟩
      rw [List.take_succ, hu]
      simp
    · rintro b _ ⟨k, h, rfl, hrest, hk, rfl, F⟩
      have hkn : k = ls.length := by
        have := congrArg List.length hrest
        simp at this
        omega
      subst hkn
      have hut : us.take ls.length = us := List.take_of_length_le (by omega)
      rw [hut]
      refine wpAny_bind (wpAny_newTuple ?_ (by simp [hl]; unfold sizeLine; omega))
      refine wpAny_pure ⟨_, rfl, ?_⟩
      have hsz' : h.objs.size = s.heap.objs.size := F.sz
      show Q (.ref h.objs.size) _
      have hT : (h.push { cls := .type "tuple", data := .seq us.toArray }).get? h.objs.size = some { cls := .type "tuple", data := .seq us.toArray } := Heap.get?_push_size _ rfl
      have up : ∀ (c : Nat) o, h.get? c = some o → (h.push { cls := .type "tuple", data := .seq us.toArray }).get? c = some o := fun c o e => Heap.get?_push_of_some _ e
      rw [hsz']
      obtain ⟨vs', hvl', hto'⟩ := F.to
      refine hQ (h.push { cls := .type "tuple", data := .seq us.toArray }) ⟨⟨x0, f', hx0, up _ _ F.z⟩, up _ _ F.ti, ⟨vs', hvl', up _ _ hto'⟩, fun j l hj => ?_⟩ ?_ ?_ ?_
      · have hjl : j < ls.length := (List.getElem?_eq_some_iff.mp hj).1
        have := F.its j l hj
        rw [if_pos hjl] at this
        exact this.at fun o q => up _ _ q
      · rw [← hsz']
        exact hT
      · rw [Heap.size_push, hsz']
      · intro c hc o q
        exact up c o (by rw [F.out c hc]; exact q)
theorem HS.step2 {n0 : Nat} {ls : List Addr} {i k : Nat} {x0 : Value} {f : Bool} {h0 h h2 h3 : Heap} (F : HS n0 ls i x0 f h0 k h) (hk : k < ls.length) {l : Addr} (hll : ls[k]? = some l)
    (h2i : h2.IsListIter (n0 + k) l (i + 1)) (s2 : Heap.SameBut (n0 + k) h h2) (s3 : Heap.SameBut (n0 + ls.length + 1) h2 h3) {vs : List Value} (hvl : vs.length = ls.length) (e3 : h3.get? (n0 + ls.length + 1) = some { cls := .type "tuple", data := .seq vs.toArray }) : HS n0 ls i x0 f h0 (k + 1) h3 := by
  have G := F.step hk hll h2i s2
  refine ⟨by rw [s3.1, G.sz], fun c hc => ?_, ?_, ?_, ⟨vs, hvl, e3⟩, fun j l' hj => ?_⟩
  · rw [s3.2 c (nn (by unfold Out at hc; omega)), G.out c hc]
  · rw [s3.2 _ (nn (by omega))]; exact G.z
  · rw [s3.2 _ (nn (by omega))]; exact G.ti
  · have hjl : j < ls.length := (List.getElem?_eq_some_iff.mp hj).1
    exact iter_of (G.its j l' hj) (s3.2 _ (nn (by omega)))
theorem next_end {n0 : Nat} {ls : List Addr} {i : Nat} {Q : Fin → Shared → Prop} (hh : A.handled = none) (hsz : ls.length ≤ 1000000) (st : ZS n0 ls i s.heap) (low : ∀ l ∈ ls, (l : Nat) < n0)
    (hls : ∀ (j : Nat) (l : Addr), ls[j]? = some l → ∃ xs : Array Value, s.heap.IsList l xs) (hend : ∃ (j : Nat) (l : Addr), ls[j]? = some l ∧ ∀ xs : Array Value, s.heap.IsList l xs → xs[i]? = none)
    (hE : ∀ h' e, (∀ c : Nat, Out n0 ls.length c → ∀ o, s.heap.get? c = some o → h'.get? c = some o) → (∃ o, h'.get? e = some o ∧ o.cls = .type "StopIteration") → E (.ref e) { s with heap := h' }) :
    wpAny (model prog w) A (Builtin.«zip.__next__» ⟨[.ref (n0 + ls.length + 2)], []⟩) Q E s := by
  obtain ⟨⟨x0, f, hx0, hz⟩, hTI, ⟨vs, hvl, hTO⟩, hits⟩ := st
  obtain ⟨jm, lm, hjm, hnone⟩ := hend
  have hjml : jm < ls.length := (List.getElem?_eq_some_iff.mp hjm).1
  have hb : s.heap.objs.size > n0 + ls.length + 2 := Heap.lt_size hz
  show wpAny _ _ (field (.ref (n0 + ls.length + 2)) 2 >>= _) _ _ _
  refine wpAny_bind (wpAny_field hz rfl (x := .bool false) rfl ?_)
  show wpAny _ _ (field (.ref (n0 + ls.length + 2)) 3 >>= _) _ _ _
  refine wpAny_bind (wpAny_field hz rfl (x := .ref (n0 + ls.length)) rfl ?_)
  refine wpAny_bind (wpAny_seqItems hTI rfl ?_)
  have hemp : (((List.range ls.length).map fun j => Value.ref (n0 + j)).toArray).isEmpty = false := by
    simp
    intro z; subst z; exact Nat.not_lt_zero _ hjml
  simp only []
  rw [if_neg (by rw [hemp]; exact Bool.false_ne_true)]
  show wpAny _ _ (Builtin.SmallTypes.ownedTupleIsFree (.ref (n0 + ls.length + 2)) >>= _) _ _ _
  refine wpAny_bind ?_
  refine wpAny_mono (Q := fun b s' => (b = true ∧ s' = s) ∨ (b = false ∧ ∃ h f', s' = { s with heap := h } ∧ Heap.SameBut (n0 + ls.length + 2) s.heap h ∧ h.get? (n0 + ls.length + 2) = some { cls := .type "zip", dict := none, data := .fields #[x0, .bool f', .bool false, .ref (n0 + ls.length), .ref (n0 + ls.length + 1)], slots := #[] })) (E := fun _ _ => False) ?_ ?_ (fun _ _ z => z.elim)
  · unfold Builtin.SmallTypes.ownedTupleIsFree
    rcases hx0 with rfl | ⟨T, rfl⟩
    · exact wpAny_bind (wpAny_field hz rfl (x := .none) rfl (wpAny_pure (.inl ⟨rfl, rfl⟩)))
    · refine wpAny_bind (wpAny_field hz rfl (x := rawInt T) rfl ?_)
      show wpAny _ _ (loadIfAlive ((T : Int).toNat) >>= _) _ _ _
      rw [Int.toNat_natCast]
      refine wpAny_bind ?_
      cases hT : s.heap.get? T with
      | none =>
        refine alive ?_
        rw [hT]
        simp only [Option.isNone_none, if_true]
        exact wpAny_pure (.inl ⟨rfl, rfl⟩)
      | some oT =>
        refine alive ?_
        rw [hT]
        simp only [Option.isNone_some, Bool.false_eq_true, if_false]
        refine wpAny_bind (wpAny_field hz rfl (x := .bool f) rfl ?_)
        cases f with
        | true =>
          rw [if_neg (show ¬ ((Value.bool true != Value.bool true) = true) from Bool.false_ne_true)]
          exact wpAny_pure (.inr ⟨rfl, s.heap, true, rfl, Heap.SameBut.refl _ _, hz⟩)
        | false =>
          rw [if_pos (show (Value.bool false != Value.bool true) = true from rfl)]
          exact wpAny_bind (wpAny_setField_rec hz (by simp) fun h₁ hz₁ hs₁ => wpAny_pure (.inr ⟨rfl, h₁, true, rfl, hs₁, hz₁⟩))
  rintro b s1 (⟨rfl, rfl⟩ | ⟨rfl, h₀, f', rfl, hs₀, hz₀⟩)
  · simp only [if_true]
    refine wpAny_bind (wpAny_rule ?_)
    refine wpAny_bind (wpAny_field hz rfl (x := .ref (n0 + ls.length + 1)) rfl ?_)
    refine wpAny_bind (wpAny_setField_rec hz (by simp) fun h₁ hz₁ hs₁ => ?_)
    refine wpAny_bind ?_
    have F0 : HS n0 ls i .ellipsis f s1.heap 0 h₁ := by
      refine ⟨hs₁.1, fun c hc => hs₁.2 c (nn (by unfold Out at hc; omega)), hz₁, ?_, ⟨vs, hvl, ?_⟩, fun j l hj => ?_⟩
      · rw [hs₁.2 _ (nn (by omega))]; exact hTI
      · rw [hs₁.2 _ (nn (by omega))]; exact hTO
      · have hjl : j < ls.length := (List.getElem?_eq_some_iff.mp hj).1
        rw [if_neg (Nat.not_lt_zero _)]
        exact iter_of (hits j l hj) (hs₁.2 _ (nn (by omega)))
    refine wpAny_forIn_list _ (fun rest b s' => ∃ k h, b = (none, ()) ∧ rest = (((List.range ls.length).map fun j => Value.ref (n0 + j)).zipIdx).drop k ∧ k ≤ jm ∧ s' = { s1 with heap := h } ∧ HS n0 ls i .ellipsis f s1.heap k h) _ ?_ ?_ _ _ ⟨0, h₁, rfl, rfl, Nat.zero_le _, rfl, F0⟩
    · rintro x rest b _ ⟨k, h, rfl, hrest, hk, rfl, F⟩
      obtain ⟨hx, hr⟩ := drop_cons hrest
      obtain ⟨hkl, rfl⟩ := zi_at hx
      obtain ⟨l, hll⟩ : ∃ l, ls[k]? = some l := ⟨_, List.getElem?_eq_getElem hkl⟩
      obtain ⟨xs, hxs⟩ := hls k l hll
      have lo := low l (List.mem_of_getElem? hll)
      have hit := F.its k l hll
      rw [if_neg (Nat.lt_irrefl _)] at hit
      refine wpAny_bind (wpAny_onRaise ?_)
      show wpAny _ _ (Builtin.SmallTypes.nextOf (.ref (n0 + k)) >>= _) _ _ _
      cases hxi : xs[i]? with
      | none =>
        refine wpAny_bind (wpAny_nextOf_list_end hh hit (list_of hxs (F.out l (.inl lo))) hxi fun h₂ e hs₂ he => ?_)
        obtain ⟨oe, hoe, hce⟩ := he
        have hz₂ := hs₂ _ _ (nn (show n0 + ls.length + 2 ≠ n0 + k by omega)) F.z
        have hez : e ≠ (n0 + ls.length + 2 : Nat) := fun x => by subst x; rw [hz₂] at hoe; cases hoe; simp at hce
        refine wpAny_setField_rec (s := { s1 with heap := h₂ }) hz₂ (by simp) fun h₃ _ hs₃ => hE h₃ e (fun c hc o q => ?_) ⟨oe, hs₃.extBut _ _ hez hoe, hce⟩
        have hc' := hc
        unfold Out at hc
        exact hs₃.extBut _ _ (nn (by omega)) (hs₂ _ _ (nn (by omega)) (by rw [F.out c hc']; exact q))
      | some u =>
        refine wpAny_bind (wpAny_nextOf_list_item hit (list_of hxs (F.out l (.inl lo))) hxi fun h₂ h2i hs₂ => wpAny_pure ?_)
        obtain ⟨vs', hvl', hto'⟩ := F.to
        have hto2 : h₂.get? (n0 + ls.length + 1) = some { cls := .type "tuple", data := .seq vs'.toArray } := by rw [hs₂.2 _ (nn (by omega))]; exact hto'
        refine wpAny_bind (wpAny_seqItems hto2 rfl ?_)
        refine wpAny_bind (wpAny_updateSeq hto2 rfl ?_ (by simp [hvl']; show _ ≤ sizeLine; unfold sizeLine; omega) (by simp [hvl']; show _ ≤ sizeLine + 1; unfold sizeLine; omega))
        refine wpAny_bind (wpAny_letGo (wpAny_pure ?_))
        have hkj : k ≠ jm := by
          rintro rfl
          rw [hll] at hjm
          cases hjm
          rw [hnone xs hxs] at hxi
          cases hxi
        refine ⟨k + 1, _, rfl, hr, by omega, rfl, F.step2 (vs := vs'.set k u) hkl hll h2i hs₂ (Heap.SameBut.update ..) (by rw [List.length_set, hvl']) ?_⟩
        rw [Heap.get?_update_self _ hto2 rfl]
        simp [Obj.mapSeq]
    · rintro b _ ⟨k, h, rfl, hrest, hk, rfl, F⟩
      have := congrArg List.length hrest
      simp at this
      omega
  · simp only [Bool.false_eq_true, if_false]
    refine wpAny_bind ?_
    have F0 : HS n0 ls i x0 f' s.heap 0 h₀ := by
      refine ⟨hs₀.1, fun c hc => hs₀.2 c (nn (by unfold Out at hc; omega)), hz₀, ?_, ⟨vs, hvl, ?_⟩, fun j l hj => ?_⟩
      · rw [hs₀.2 _ (nn (by omega))]; exact hTI
      · rw [hs₀.2 _ (nn (by omega))]; exact hTO
      · have hjl : j < ls.length := (List.getElem?_eq_some_iff.mp hj).1
        rw [if_neg (Nat.not_lt_zero _)]
        exact iter_of (hits j l hj) (hs₀.2 _ (nn (by omega)))
    rw [← Array.forIn_toList]
    refine wpAny_forIn_list _ (fun rest b s' => ∃ k h, b.1 = none ∧ rest = ((List.range ls.length).map fun j => Value.ref (n0 + j)).drop k ∧ k ≤ jm ∧ s' = { s with heap := h } ∧ HS n0 ls i x0 f' s.heap k h) _ ?_ ?_ _ _ ⟨0, h₀, rfl, by simp, Nat.zero_le _, rfl, F0⟩
    · rintro x rest b _ ⟨k, h, hb1, hrest, hk, rfl, F⟩
      obtain ⟨hx, hr⟩ := drop_cons hrest
      obtain ⟨hkl, rfl⟩ := it_at hx
      obtain ⟨l, hll⟩ : ∃ l, ls[k]? = some l := ⟨_, List.getElem?_eq_getElem hkl⟩
      obtain ⟨xs, hxs⟩ := hls k l hll
      have lo := low l (List.mem_of_getElem? hll)
      have hit := F.its k l hll
      rw [if_neg (Nat.lt_irrefl _)] at hit
      refine wpAny_bind (wpAny_holding ?_)
      show wpAny _ _ (Builtin.SmallTypes.nextOf (.ref (n0 + k)) >>= _) _ _ _
      cases hxi : xs[i]? with
      | none =>
        refine wpAny_bind (wpAny_nextOf_list_end hh hit (list_of hxs (F.out l (.inl lo))) hxi fun h₂ e hs₂ he => ?_)
        refine hE h₂ e (fun c hc o q => ?_) he
        have hc' := hc
        unfold Out at hc
        exact hs₂ _ _ (nn (by omega)) (by rw [F.out c hc']; exact q)
      | some u =>
        refine wpAny_bind (wpAny_nextOf_list_item hit (list_of hxs (F.out l (.inl lo))) hxi fun h₂ h2i hs₂ => wpAny_pure ?_)
        have hkj : k ≠ jm := by
          rintro rfl
          rw [hll] at hjm
          cases hjm
          rw [hnone xs hxs] at hxi
          cases hxi
        exact wpAny_pure ⟨k + 1, h₂, rfl, hr, by omega, rfl, F.step hkl hll h2i hs₂⟩
    · rintro b _ ⟨k, h, hb1, hrest, hk, rfl, F⟩
      have := congrArg List.length hrest
      simp at this
      omega
end
section
theorem typeCall_N (vs : List Value) : checkTypeCall "zip" ⟨vs, []⟩ = pure () := by kernel_rfl
theorem newCall_N : ∀ vs : List Value, 1 ≤ vs.length → checkBuiltinCall "zip.__new__" ⟨.type "zip" :: vs, []⟩ = pure ()
  | [a], _ => by kernel_rfl
  | a :: b :: r, _ => by kernel_rfl
theorem init_N (o : Value) : ∀ vs : List Value, 1 ≤ vs.length → argsOk "object.__init__" ⟨o :: vs, []⟩
  | [a], _ => by
    unfold argsOk; rw [signature?_of (id := "object.__init__") (n := ['_', '_', 't', 'i', 'n', 'i', '_', '_']) (o := ['t', 'c', 'e', 'j', 'b', 'o']) (by kernel_rfl) F.owner_object]; kernel_rfl
  | a :: b :: r, _ => by
    unfold argsOk; rw [signature?_of (id := "object.__init__") (n := ['_', '_', 't', 'i', 'n', 'i', '_', '_']) (o := ['t', 'c', 'e', 'j', 'b', 'o']) (by kernel_rfl) F.owner_object]; kernel_rfl
theorem zn468 {n : Nat} (h : n = 4 ∨ n = 6 ∨ n = 8) : 1 ≤ n ∧ n ≤ 1000000 := by omega
end
end Vz
namespace Vz
open PySem PySem.Spec PyProof.Rows L2
section
variable {prog : Program} {w : World} {A : Around} {E : Value → Shared → Prop} {s : Shared}
/-- the iterators of the lists, one after the other -/
theorem iterAll_lists (ls : List Addr) (hl : ∀ l ∈ ls, ∃ xs : Array Value, s.heap.IsList l xs) :
    wpAny (model prog w) A (Builtin.SmallTypes.iterAll (ls.map Value.ref)) (fun its s' => its = (List.range ls.length).map (fun j => Value.ref (s.heap.objs.size + j)) ∧ ∃ h1, s' = { s with heap := h1 } ∧ h1.objs.size = s.heap.objs.size + ls.length ∧
      (∀ c o, s.heap.get? c = some o → h1.get? c = some o) ∧ ∀ (j : Nat) (l : Addr), ls[j]? = some l → h1.IsListIter ((s.heap.objs.size + j : Nat)) l 0) (fun _ _ => False) s := by
  unfold Builtin.SmallTypes.iterAll
  refine wpAny_bind ?_
  refine wpAny_forIn_list _ (fun rest b s' => ∃ k h1, b = ((List.range k).map (fun j => Value.ref (s.heap.objs.size + j))).toArray ∧ rest = (ls.map Value.ref).drop k ∧ k ≤ ls.length ∧ s' = { s with heap := h1 } ∧ h1.objs.size = s.heap.objs.size + k ∧ (∀ c o, s.heap.get? c = some o → h1.get? c = some o) ∧ ∀ (j : Nat) (l : Addr), j < k → ls[j]? = some l → h1.IsListIter ((s.heap.objs.size + j : Nat)) l 0) _ ?_ ?_ _ _ ⟨0, s.heap, rfl, rfl, Nat.zero_le _, rfl, rfl, fun _ _ q => q, fun j l hj => absurd hj (Nat.not_lt_zero _)⟩
  · rintro x rest b _ ⟨k, h1, rfl, hrest, hk, rfl, hsz, hkp, hit⟩
    obtain ⟨hx, hr⟩ := drop_cons hrest
    rw [List.getElem?_map] at hx
    have hkl : k < ls.length := by
      by_cases q : k < ls.length
      · exact q
      · rw [List.getElem?_eq_none (by omega)] at hx; cases hx
    rw [List.getElem?_eq_getElem hkl] at hx
    obtain rfl : Value.ref ls[k] = x := by simpa using hx
    obtain ⟨xs, hxs⟩ := hl ls[k] (List.getElem_mem hkl)
    refine wpAny_bind (wpAny_holding ?_)
    refine wpAny_pyIter_list (s := { s with heap := h1 }) (hxs.at fun o q => hkp _ _ q) ?_
    refine wpAny_pure ⟨k + 1, _, ?_, hr, hkl, rfl, ?_, fun c o q => Heap.get?_push_of_some _ (hkp c o q), fun j l hj hjl => ?_⟩
    · rw [List.range_succ, List.map_append, hsz]
      simp
    · rw [Heap.size_push, hsz]; rfl
    · by_cases e : j = k
      · subst e
        rw [List.getElem?_eq_getElem hkl] at hjl
        cases hjl
        exact ⟨_, by rw [← hsz]; exact Heap.get?_push_size _ rfl, rfl, rfl⟩
      · exact (hit j l (by omega) hjl).at fun o q => Heap.get?_push_of_some _ q
  · rintro b _ ⟨k, h1, rfl, hrest, hk, rfl, hsz, hkp, hit⟩
    have hkn : k = ls.length := by
      have := congrArg List.length hrest
      simp at this
      omega
    subst hkn
    exact wpAny_pure ⟨by simp, h1, rfl, hsz, hkp, fun j l hj => hit j l (List.getElem?_eq_some_iff.mp hj).1 hj⟩
theorem zip_new_N (ls : List Addr) (hn : ls.length ≤ 1000000) : Meets (Builtin.«zip.__new__» ⟨.type "zip" :: ls.map Value.ref, []⟩) (fun _ R s => (∀ l ∈ ls, ∃ xs : Array Value, s.heap.IsList l xs) ∧
      ∀ h', ZS s.heap.objs.size ls 0 h' → (∀ c o, s.heap.get? c = some o → h'.get? c = some o) → R (.ok (.ret (.ref (s.heap.objs.size + ls.length + 2)))) { s with heap := h' }) :=
  .of_wp fun prog w A R s hh => by
    obtain ⟨hl, h⟩ := hh
    have hsub := sub_zip
    unfold Builtin.«zip.__new__»
    refine wpAny_bind ?_
    have hc : wpAny (model prog w) A.in1 (Builtin.SmallTypes.newClass "zip" ⟨.type "zip" :: ls.map Value.ref, []⟩) (fun r s' => r = (.type "zip", ls.map Value.ref) ∧ s' = s) (fun e s' => R (.error e) s') s := by
      unfold Builtin.SmallTypes.newClass
      repeat (any_goals (first | assumption | wp_step))
      exact ⟨rfl, rfl⟩
    refine wpAny_mono hc ?_ (fun _ _ z => z)
    rintro r s' ⟨rfl, rfl⟩
    show wpAny _ _ (Builtin.SmallTypes.iterAll (ls.map Value.ref) >>= fun its => newTuple its >>= fun t1 => newTuple (its.map fun _ => .none) >>= fun t2 => Builtin.SmallTypes.newRecord (.type "zip") (Builtin.SmallTypes.ownedTupleFields ++ [Value.bool false, t1, t2]) >>= fun r => ret r) _ _ _
    refine wpAny_bind ?_
    refine wpAny_mono (iterAll_lists ls hl) ?_ (fun _ _ z => z.elim)
    rintro its _ ⟨rfl, h1, rfl, hsz, hk, hit⟩
    refine wpAny_bind (wpAny_newTuple ?_ (by simp; unfold sizeLine; omega))
    refine wpAny_bind (wpAny_newTuple ?_ (by simp; unfold sizeLine; omega))
    refine wpAny_bind ?_
    unfold Builtin.SmallTypes.newRecord
    refine wpAny_newObj_type ?_ (by first | trivial | (simp only [sizeOk]; decide) | (simp [sizeOk]; decide))
    refine wpAny_pure ⟨_, rfl, ?_⟩
    generalize pA : h1.push { cls := .type "tuple", data := .seq ((List.range ls.length).map fun j => Value.ref (s'.heap.objs.size + j)).toArray } = hA
    have eA : hA.objs.size = s'.heap.objs.size + ls.length + 1 := by rw [← pA, Heap.size_push, hsz]
    have gA : hA.get? (s'.heap.objs.size + ls.length) = some { cls := .type "tuple", data := .seq ((List.range ls.length).map fun j => Value.ref (s'.heap.objs.size + j)).toArray } := by
      rw [← pA, ← hsz]; exact Heap.get?_push_size _ rfl
    have kA : ∀ c o, h1.get? c = some o → hA.get? c = some o := fun c o q => by rw [← pA]; exact Heap.get?_push_of_some _ q
    simp only [hsz, eA]
    generalize pB : hA.push { cls := .type "tuple", data := .seq (((List.range ls.length).map fun j => Value.ref (s'.heap.objs.size + j)).map fun _ => Value.none).toArray } = hB
    have eB : hB.objs.size = s'.heap.objs.size + ls.length + 2 := by rw [← pB, Heap.size_push, eA]
    have gB : hB.get? (s'.heap.objs.size + ls.length + 1) = some { cls := .type "tuple", data := .seq (((List.range ls.length).map fun j => Value.ref (s'.heap.objs.size + j)).map fun _ => Value.none).toArray } := by
      rw [← pB, ← eA]; exact Heap.get?_push_size _ rfl
    have kB : ∀ c o, hA.get? c = some o → hB.get? c = some o := fun c o q => by rw [← pB]; exact Heap.get?_push_of_some _ q
    simp only [eB]
    generalize pC : hB.push _ = hC
    have gC : hC.get? (s'.heap.objs.size + ls.length + 2) = some { cls := .type "zip", dict := none, data := .fields #[.none, .bool false, .bool false, .ref (s'.heap.objs.size + ls.length), .ref (s'.heap.objs.size + ls.length + 1)], slots := #[] } := by rw [← pC, ← eB]; exact Heap.get?_push_size _ rfl
    have kC : ∀ c o, hB.get? c = some o → hC.get? c = some o := fun c o q => by rw [← pC]; exact Heap.get?_push_of_some _ q
    refine h hC ⟨⟨.none, false, .inl rfl, gC⟩, kC _ _ (kB _ _ gA), ⟨_, by simp, kC _ _ gB⟩, fun j l hj => (hit j l hj).at fun o q => kC _ _ (kB _ _ (kA _ _ q))⟩ fun c o q => kC _ _ (kB _ _ (kA _ _ (hk c o q)))
theorem call_zipN {ls : List Addr} {Q : Value → Shared → Prop} (hn : 1 ≤ ls.length ∧ ls.length ≤ 1000000) (hl : ∀ l ∈ ls, ∃ xs : Array Value, s.heap.IsList l xs)
    (h : ∀ h', ZS s.heap.objs.size ls 0 h' → (∀ c o, s.heap.get? c = some o → h'.get? c = some o) → Q (.ref (s.heap.objs.size + ls.length + 2)) { s with heap := h' }) :
    wpAny (model prog w) A (call (.type "zip") (ls.map Value.ref)) Q E s := by
  have hct : checkTypeCall "zip" ⟨ls.map Value.ref, []⟩ = pure () := typeCall_N _
  have hcn : checkBuiltinCall "zip.__new__" ⟨.type "zip" :: ls.map Value.ref, []⟩ = pure () := newCall_N _ (by simpa using hn.1)
  have hin : ∀ obj, argsOk "object.__init__" ⟨obj :: ls.map Value.ref, []⟩ := fun obj => init_N _ _ (by simpa using hn.1)
  refine callType_newIn F.called_zip (by decide) hct hcn hin F.entry_zip_new ((zip_new_N ls (by omega)).inModel prog w) ⟨hl, fun h' hz hk => ?_⟩
  exact ⟨by obtain ⟨x0, f, _, q⟩ := hz.z; exact ⟨_, q, rfl⟩, h h' hz hk⟩
theorem pyNext_item {n0 : Nat} {ls : List Addr} {us : List Value} {i : Nat} {Q : Option Value → Shared → Prop} (hne : ls ≠ []) (hsz : ls.length ≤ 1000000) (st : ZS n0 ls i s.heap) (hl : us.length = ls.length) (low : ∀ l ∈ ls, (l : Nat) < n0)
    (hi : Has s.heap ls i us)
    (hQ : ∀ h', ZS n0 ls (i + 1) h' → h'.get? s.heap.objs.size = some { cls := .type "tuple", data := .seq us.toArray } → h'.objs.size = s.heap.objs.size + 1 →
      (∀ c : Nat, Out n0 ls.length c → ∀ o, s.heap.get? c = some o → h'.get? c = some o) → Q (some (.ref s.heap.objs.size)) { s with heap := h' }) :
    wpAny (model prog w) A (pyNext (.ref (n0 + ls.length + 2))) Q E s := by
  have hT : s.TypeIs (.ref (n0 + ls.length + 2)) "zip" := by obtain ⟨x0, f, _, q⟩ := st.z; exact ⟨_, q, rfl⟩
  unfold pyNext
  exact wpAny_bind (wpAny_attempt (wpAny_callSpecial?_slot (name := Str.ofString "__next__") hT F.slot_zip_next
    (wpAny_call_entry F.slot_zip_next hT F.entry_zip_next
      (next_item hne hsz st hl low hi fun h' a1 a2 a3 a4 => wpAny_pure (hQ h' a1 a2 a3 a4)) (F.args_zip_next_1 _))))
theorem pyNext_end {n0 : Nat} {ls : List Addr} {i : Nat} {Q : Option Value → Shared → Prop} (hh : A.handled = none) (hsz : ls.length ≤ 1000000) (st : ZS n0 ls i s.heap) (low : ∀ l ∈ ls, (l : Nat) < n0)
    (hls : ∀ (j : Nat) (l : Addr), ls[j]? = some l → ∃ xs : Array Value, s.heap.IsList l xs) (hend : ∃ (j : Nat) (l : Addr), ls[j]? = some l ∧ ∀ xs : Array Value, s.heap.IsList l xs → xs[i]? = none)
    (hQ : ∀ h', (∀ c : Nat, Out n0 ls.length c → ∀ o, s.heap.get? c = some o → h'.get? c = some o) → Q none { s with heap := h' }) :
    wpAny (model prog w) A (pyNext (.ref (n0 + ls.length + 2))) Q E s := by
  have hT : s.TypeIs (.ref (n0 + ls.length + 2)) "zip" := by obtain ⟨x0, f, _, q⟩ := st.z; exact ⟨_, q, rfl⟩
  unfold pyNext
  refine wpAny_bind (wpAny_attempt (wpAny_callSpecial?_slot (name := Str.ofString "__next__") hT F.slot_zip_next
    (wpAny_call_entry F.slot_zip_next hT F.entry_zip_next (next_end hh hsz st low hls hend fun h' e hk he => ?_) (F.args_zip_next_1 _))))
  obtain ⟨o, ho, hc⟩ := he
  refine wpAny_bind (wpAny_isInstance (T := "StopIteration") (b := true) ⟨o, ho, hc⟩ isSubtype_stop ?_)
  exact wpAny_pure (hQ _ hk)
/-- the step ahead of the store: the zip stays one -/
theorem go_zip {n0 : Nat} {ls : List Addr} {i : Nat} {tg : Expr} {T : Addr} {Q : Unit → Shared → Prop} (st : ZS n0 ls i s.heap) (hQ : ∀ h', ZS n0 ls i h' → Heap.SameBut (n0 + ls.length + 2) s.heap h' → Q () { s with heap := h' }) :
    wpAny (model prog w) A (letOwnedTupleGo tg (.ref (n0 + ls.length + 2)) (.ref T)) Q E s := by
  have same : Q () s := hQ s.heap st (Heap.SameBut.refl _ _)
  obtain ⟨⟨x0, f, hx0, hz⟩, hTI, hTO, hits⟩ := st
  unfold letOwnedTupleGo
  cases tg <;> first
    | exact wpAny_pure same
    | (refine wpAny_bind (wpAny_load hz ?_)
       show wpAny _ _ (if (["enumerate", "zip", "dict_itemiterator", "dict_reverseitemiterator", "odict_iterator", "itertools.zip_longest", "itertools.pairwise"].contains "zip" &&
         (#[x0, .bool f, .bool false, .ref (n0 + ls.length), .ref (n0 + ls.length + 1)] : Array Value)[0]? == some (rawInt T)) = true then _ else _) Q E s
       split
       · refine wpAny_bind (wpAny_rule ?_)
         show wpAny _ _ (setField (.ref (n0 + ls.length + 2)) 0 .none) Q E s
         refine wpAny_setField_rec hz (by simp) fun h' hz' hs' => hQ h' ⟨⟨.none, f, .inl rfl, hz'⟩, ?_, ?_, fun j l hj => ?_⟩ hs'
         · rw [hs'.2 _ (nn (by omega))]; exact hTI
         · obtain ⟨vs, hvl, hTO⟩ := hTO
           exact ⟨vs, hvl, by rw [hs'.2 _ (nn (by omega))]; exact hTO⟩
         · have hjl : j < ls.length := (List.getElem?_eq_some_iff.mp hj).1
           exact iter_of (hits j l hj) (hs'.2 _ (nn (by omega)))
       · exact wpAny_pure same)
end
/-! ### the turn -/
/-- the lists at ls as they stand at each turn, their items in a new tuple -/
def ItzN (K : PySem.W.Frag) (ls : List Addr) : It :=
  ⟨fun i H => ls ≠ [] ∧ ∃ us : List V, us.length = ls.length ∧ ∀ (j : Nat) (l : Addr) (u : V), ls[j]? = some l → us[j]? = some u → ∃ xs : List V, SqL K H l xs ∧ xs[i]? = some u,
    fun i H v H' => ∃ T us, v = .ref T ∧ H T = none ∧ H' = upd H T (.tup us) ∧ us.length = ls.length ∧ ∀ (j : Nat) (l : Addr), ls[j]? = some l → ∀ xs, SqL K H l xs → xs[i]? = us[j]?,
    fun i H => (∀ l ∈ ls, ∃ xs : List V, SqL K H l xs) ∧ ∃ l ∈ ls, ∃ xs : List V, SqL K H l xs ∧ xs.length ≤ i⟩
theorem has_vals {X : Cx} {pins : List (Addr × Obj)} {σ : L2.St} {H : Hp} {s : Shared} {i : Nat} (I : Inv X pins σ H s) : ∀ (ls : List Addr) (us : List V), us.length = ls.length → (∀ (j : Nat) (l : Addr) (u : V), ls[j]? = some l → us[j]? = some u → ∃ xs : List V, SqL X.K H l xs ∧ xs[i]? = some u) →
    ∃ ws : List Value, Vals us ws ∧ Has s.heap ls i ws
  | [], [], _, _ => ⟨[], .nil, fun j l u h => by simp at h⟩
  | [], u :: us, h, _ => by simp at h
  | l :: ls, [], h, _ => by simp at h
  | l :: ls, u :: us, hl, h => by
    obtain ⟨ws, hv, hh⟩ := has_vals I ls us (by simpa using hl) fun j l' u' h1 h2 => h (j + 1) l' u' (by simpa using h1) (by simpa using h2)
    obtain ⟨xs, q, hx⟩ := h 0 l u rfl rfl
    obtain ⟨its, rv, p, _⟩ := I.list q
    obtain ⟨w1, hw, rw1⟩ := rv.get hx
    refine ⟨w1 :: ws, .cons rw1 hv, fun j l' u' h1 h2 => ?_⟩
    cases j with
    | zero =>
      simp at h1 h2
      subst h1 h2
      exact ⟨_, p.isList, by simpa using hw⟩
    | succ j => exact hh j l' u' (by simpa using h1) (by simpa using h2)
def fpN (n0 n : Nat) : List Addr := (List.range (n + 3)).map (n0 + ·)
theorem mem_fpN {n0 n c : Nat} : c ∈ fpN n0 n ↔ ¬ Out n0 n c := by
  unfold fpN Out
  simp only [List.mem_map, List.mem_range]
  constructor
  · rintro ⟨j, hj, rfl⟩; omega
  · intro h; exact ⟨c - n0, by omega, by omega⟩
theorem turn_zipN {P : Program} {w : World} {K : PySem.W.Frag} {tg : Expr} {n0 : Nat} {ls : List Addr} (hsz : ls.length ≤ 1000000) (low : ∀ l ∈ ls, (l : Nat) < n0) :
    Turn P w K tg (ItzN K ls) (fpN n0 ls.length) (n0 + ls.length + 2 : Nat) (fun i h => ZS n0 ls i h) where
  mem := mem_fpN.mpr (by unfold Out; omega)
  obj := fun i h st c0 hc => by
    obtain ⟨c, rfl⟩ : ∃ c : Nat, c = c0 := ⟨c0, rfl⟩
    have hc := mem_fpN.mp hc
    obtain ⟨⟨x0, f, hx0, hz⟩, hTI, ⟨vs, hvl, hTO⟩, hits⟩ := st
    have h4 : (c : Nat) = n0 + ls.length + 2 ∨ (c : Nat) = n0 + ls.length ∨ (c : Nat) = n0 + ls.length + 1 ∨ ∃ j, j < ls.length ∧ (c : Nat) = n0 + j := by
      unfold Out at hc
      by_cases h1 : (c : Nat) < n0 + ls.length
      · exact .inr (.inr (.inr ⟨(c : Nat) - n0, by omega, by omega⟩))
      · omega
    rcases h4 with rfl | rfl | rfl | ⟨j, hj, rfl⟩
    · exact ⟨_, hz, fun v q => nomatch q⟩
    · exact ⟨_, hTI, fun v q => nomatch q⟩
    · exact ⟨_, hTO, fun v q => nomatch q⟩
    · obtain ⟨o1, e1, _, d1⟩ := hits j ls[j] (List.getElem?_eq_getElem hj)
      exact ⟨o1, e1, fun v q => by rw [d1] at q; cases q⟩
  keep := fun i h h' st k => by
    obtain ⟨⟨x0, f, hx0, hz⟩, hTI, ⟨vs, hvl, hTO⟩, hits⟩ := st
    refine ⟨⟨x0, f, hx0, k _ (mem_fpN.mpr (by unfold Out; omega)) _ hz⟩, k _ (mem_fpN.mpr (by unfold Out; omega)) _ hTI, ⟨vs, hvl, k _ (mem_fpN.mpr (by unfold Out; omega)) _ hTO⟩, fun j l hj => ?_⟩
    have hjl : j < ls.length := (List.getElem?_eq_some_iff.mp hj).1
    exact (hits j l hj).at fun o q => k _ (mem_fpN.mpr (by unfold Out; omega)) o q
  item := by
    intro X hP hw hK hc i pins s σ H E I hf st hg
    subst hP hw hK
    obtain ⟨hne, us, hul, hus⟩ := hg
    obtain ⟨ws, rws, has⟩ := has_vals I ls us hul hus
    have hwl : ws.length = ls.length := by rw [← rws.length]; exact hul
    have hb : s.heap.objs.size > n0 + ls.length + 2 := by obtain ⟨x0, f, _, q⟩ := st.z; exact Heap.lt_size q
    refine pyNext_item hne hsz st hwl low has fun h' st' hT hsz' hk => ?_
    refine ⟨_, rfl, go_zip (s := { s with heap := h' }) st' fun h'' st'' sb => ?_⟩
    have hT2 : h''.get? s.heap.objs.size = some { cls := .type "tuple", data := .seq ws.toArray } := (sb.2 _ (nn (by omega))).trans hT
    have new : ObjOk X.prog X.w (upd H s.heap.objs.size (.tup us)) h'' s.heap.objs.size (.tup us) :=
      ⟨by rw [hul]; unfold sizeLine; omega, ws, rws, ⟨_, hT2, rfl, _, rfl⟩⟩
    have I1 : Inv X pins σ (upd H s.heap.objs.size (.tup us)) { s with heap := h'' } :=
      I.turnedNew (t' := s.toks) (ch := fpN n0 ls.length) (fun c0 o hb' q => by
        obtain ⟨c, rfl⟩ : ∃ c : Nat, c = c0 := ⟨c0, rfl⟩
        have hc' : Out n0 ls.length c := Classical.byContradiction fun z => hb' (mem_fpN.mpr z)
        have hc2 := hc'
        unfold Out at hc2
        exact (sb.2 c (nn (by omega))).trans (hk c hc' o q)) hf (Nat.le_refl _) new
    refine ⟨.ref s.heap.objs.size, _, I1, rfl, ⟨_, us, rfl, I.hok.fresh (Nat.le_refl _), rfl, hul, fun j l hj xs hq => ?_⟩, st'', fun c0 hcm => ?_⟩
    · have hjl : j < ls.length := (List.getElem?_eq_some_iff.mp hj).1
      obtain ⟨u, hu⟩ : ∃ u, us[j]? = some u := ⟨_, List.getElem?_eq_getElem (by omega)⟩
      obtain ⟨ys, q', hy⟩ := hus j l u hj hu
      rw [I.list_inj hq q', hy, hu]
    · obtain ⟨c, rfl⟩ : ∃ c : Nat, c = c0 := ⟨c0, rfl⟩
      have hc := mem_fpN.mp hcm
      have hlt : (c : Nat) < s.heap.objs.size := by unfold Out at hc; omega
      rw [upd_ne (Nat.ne_of_lt hlt)]
      exact (hf c hcm).1
  done := by
    intro X hP hw hK hc i pins s σ H E I hf st hg
    subst hP hw hK
    obtain ⟨hall, l0, hl0, xs0, q0, hle⟩ := hg
    refine pyNext_end (I.ok.hd hc) hsz st low (fun j l hj => ?_) ?_ fun h' hk => ⟨rfl, I.turnedL (t' := s.toks) (ch := fpN n0 ls.length) (fun c o hb' q => hk c (Classical.byContradiction fun z => hb' (mem_fpN.mpr z)) o q) hf⟩
    · obtain ⟨xs, q⟩ := hall l (List.mem_of_getElem? hj)
      obtain ⟨its, rv, p, _⟩ := I.list q
      exact ⟨_, p.isList⟩
    · obtain ⟨j, hj⟩ := List.getElem?_of_mem hl0
      refine ⟨j, l0, hj, fun xs hxs => ?_⟩
      obtain ⟨its, rv, p, _⟩ := I.list q0
      have l1 := rv.length
      have e : xs = its.toArray := by
        obtain ⟨o1, h1, c1, n1, d1⟩ := hxs
        obtain ⟨o2, h2, c2, n2, d2⟩ := p.isList
        rw [h1] at h2
        cases h2
        rw [d1] at d2
        cases d2
        rfl
      subst e
      simp
      omega
  self := fun A i s Q E st h => by
    obtain ⟨x0, f, _, q⟩ := st.z
    have hT : s.TypeIs (.ref (n0 + ls.length + 2 : Nat)) "zip" := ⟨_, q, rfl⟩
    refine wpAny_pyIter_slot hT F.slot_zip_iter (wpAny_call_entry F.slot_zip_iter hT F.entry_zip_iter ?_ (F.args_zip_iter_1 _))
    show wpAny _ _ (ret (.ref _)) _ _ s
    exact wpAny_pure ⟨_, rfl, "zip", _, hT, F.slot_zip_next.lookup, h⟩
theorem callWith_typeS {M : Model} {A : Around} {E : Value → Shared → Prop} {s : Shared} {pos p : Pos} {T : String} {env : Env} {e : Expr} {Q : Value → Shared → Prop}
    (h : wpAny M A (eval e env) (fun v s₁ => PySem.W.StarOf M A E v (fun vs s₂ => wpAny M A (call (.type T) vs) Q E s₂) s₁) E s) (he : starEach [.Starred e p] env = [(true, eval e env)] := by rfl) :
    wpAny M A (callWith pos (.type T) [] (backTo pos (starEach [.Starred e p] env)) []) Q E s := by
  rw [he]
  have h2 := PySem.W.ks_lone (f := .type T) (pos := pos) (Q := fun a s₂ => wpAny M A (call (.type T) a.pos a.kw) Q E s₂) h
  unfold callWith
  refine wpAny_bind (wpAny_holding (wpAny_mono h2 (fun a s₁ h₁ => wpAny_bind (wpAny_standAt ?_)) fun _ _ x => x))
  refine wpAny_bind (wpAny_pure ?_)
  refine wpAny_bind ?_
  refine wpAny_mono (PySem.wpAny_operating h₁) (fun r s₂ hr => wpAny_bind (wpAny_holding (wpAny_point (wpAny_pure hr)))) fun _ _ x => x
def iZipN (K : PySem.W.Frag) (te : TE) : TI := fun σ H R => te σ H fun v H1 => ∃ (a : Addr) (ls : List Addr), v = V.ref a ∧ SqL K H1 a (ls.map V.ref) ∧ (1 ≤ ls.length ∧ ls.length ≤ 1000000) ∧ (∀ l ∈ ls, ∃ xs : List V, SqL K H1 l xs) ∧ R (ItzN K ls) H1
theorem vals_refs : ∀ {ls : List Addr} {us : List Value}, Vals (ls.map V.ref) us → us = ls.map Value.ref
  | [], _, h => by cases h; rfl
  | l :: ls, _, h => by
    cases h with
    | cons a r => rw [vals_refs r]; cases a; rfl
theorem pi_zipN {X : Cx} {K : PySem.W.Frag} {e tg : Expr} {te : TE} {p sp_ pos : Pos} (hg : Gl X "zip") (hm : X.mg "zip" = none) (he : PE X e te) (hK : X.K = K := by rfl) (hst : starEach [.Starred e sp_] X.env = [(true, eval e X.env)] := by rfl) :
    PI X tg (.Call (.Name "zip" p) [.Starred e sp_] [] pos) (iZipN K te) := by
  subst hK
  refine ⟨fun pins s σ H R I h => ?_⟩
  refine Call_ (ld_blt I hg hm PyProof.Rows.boot_zip (callWith_typeS (thn (he.run pins s σ H _ I h) fun v s1 ⟨y, H1, I1, ry, a, ls, ey, hx, hn, hls, q⟩ => ?_) hst))
  subst ey
  obtain rfl : v = Value.ref a := ry
  refine StX.star_any I1 (.inr hx) fun us s2 I2 rv => ?_
  obtain rfl := vals_refs rv
  have hlists : ∀ l ∈ ls, ∃ xs : Array Value, s2.heap.IsList l xs := fun l hl => by
    obtain ⟨xs, q⟩ := hls l hl
    obtain ⟨its, rv, pl, _⟩ := I2.list q
    exact ⟨_, pl.isList⟩
  have hlow : ∀ l ∈ ls, (l : Nat) < s2.heap.objs.size := fun l hl => by
    obtain ⟨xs, q⟩ := hls l hl
    obtain ⟨its, rv, pl, _⟩ := I2.list q
    exact pl.lt
  refine call_zipN hn hlists fun h' hz hk => ?_
  have I3 : Inv X pins σ H1 { s2 with heap := h' } := I2.kept (t' := s2.toks) hk
  have T := turn_zipN (P := X.prog) (w := X.w) (K := X.K) (tg := tg) (n0 := s2.heap.objs.size) (ls := ls) (by omega) hlow
  refine T.self X.A 0 { s2 with heap := h' } _ _ hz ?_
  refine ⟨_, _, _, _, H1, rfl, I3, T, hz, fun b hb => ?_, q⟩
  have hc := mem_fpN.mp hb
  have hle : s2.heap.objs.size ≤ b := by
    obtain ⟨c, rfl⟩ : ∃ c : Nat, c = b := ⟨b, rfl⟩
    unfold Out at hc
    omega
  exact I2.fpOk hle (I2.hok.fresh hle)
end Vz
namespace Vx
open PySem PySem.Spec PyProof.Rows L2
/-- the length of the shortest row -/
def minLen : List (List Int) → Nat
  | [] => 0
  | [x] => x.length
  | x :: r => min x.length (minLen r)
def colOf (xss : List (List Int)) (i : Nat) : List Int := xss.map fun r => itD r (i : Int)
/-- zip(*rows) -/
def zipRows (xss : List (List Int)) : List (List Int) := (List.range (minLen xss)).map (colOf xss)
theorem minLen_le : ∀ {xss : List (List Int)} {xs : List Int}, xs ∈ xss → minLen xss ≤ xs.length
  | [x], xs, h => by
    simp at h
    subst h
    exact Nat.le_refl _
  | x :: y :: r, xs, h => by
    rcases List.mem_cons.mp h with rfl | h
    · exact Nat.min_le_left _ _
    · exact Nat.le_trans (Nat.min_le_right _ _) (minLen_le h)
theorem minLen_at : ∀ {xss : List (List Int)}, xss ≠ [] → ∃ xs ∈ xss, xs.length = minLen xss
  | [x], _ => ⟨x, List.mem_cons_self, rfl⟩
  | x :: y :: r, _ => by
    obtain ⟨z, hz, e⟩ := minLen_at (xss := y :: r) (by simp)
    by_cases h : x.length ≤ minLen (y :: r)
    · exact ⟨x, List.mem_cons_self, by show _ = min _ _; omega⟩
    · exact ⟨z, List.mem_cons_of_mem _ hz, by show _ = min _ _; omega⟩
theorem zipRows_len (xss : List (List Int)) : (zipRows xss).length = minLen xss := by simp [zipRows]
theorem zipRows_get {xss : List (List Int)} {i : Nat} (h : i < minLen xss) : (zipRows xss)[i]? = some (colOf xss i) := by
  simp [zipRows, List.getElem?_range h]
/-- the rows stand at ls -/
def RowsAt (K : PySem.W.Frag) (H : Hp) (ls : List Addr) (xss : List (List Int)) : Prop :=
  ls.length = xss.length ∧ ∀ (j : Nat) (l : Addr) (xs : List Int), ls[j]? = some l → xss[j]? = some xs → SqL K H l (xs.map V.int)
theorem RowsAt.all {K : PySem.W.Frag} {H : Hp} {ls : List Addr} {xss : List (List Int)} (r : RowsAt K H ls xss) : ∀ l ∈ ls, ∃ xs : List V, SqL K H l xs := fun l hl => by
  obtain ⟨j, hj⟩ := List.getElem?_of_mem hl
  have hjl : j < ls.length := (List.getElem?_eq_some_iff.mp hj).1
  have hjx : j < xss.length := by rw [← r.1]; exact hjl
  exact ⟨_, r.2 j l xss[j] hj (List.getElem?_eq_getElem hjx)⟩
theorem walk_zipN {K : PySem.W.Frag} {ls : List Addr} {xss : List (List Int)} (hne : xss ≠ []) :
    Walk (Vz.ItzN K ls) (minLen xss) (fun H => RowsAt K H ls xss) (fun i H v H' => ∃ T, v = .ref T ∧ H T = none ∧ H' = upd H T (.tup ((colOf xss i).map V.int))) := by
  refine ⟨fun i H hi q => ?_, fun H q => ?_, fun i H x H' hi q y => ?_⟩
  · have hl : ls ≠ [] := fun z => hne (by have := q.1; rw [z] at this; exact List.length_eq_zero_iff.mp this.symm)
    refine ⟨hl, (colOf xss i).map V.int, by simp [colOf, q.1], fun j l u h1 h2 => ?_⟩
    have hj : j < xss.length := by rw [← q.1]; exact (List.getElem?_eq_some_iff.mp h1).1
    have hx : xss[j]? = some xss[j] := List.getElem?_eq_getElem hj
    refine ⟨_, q.2 j l _ h1 hx, ?_⟩
    have hlt : i < xss[j].length := Nat.lt_of_lt_of_le hi (minLen_le (List.getElem_mem hj))
    rw [List.getElem?_map] at h2
    unfold colOf at h2
    rw [List.getElem?_map, hx] at h2
    rw [List.getElem?_map]
    simp at h2
    rw [List.getElem?_eq_getElem hlt, ← h2]
    have : itD xss[j] (i : Int) = xss[j][i] := by
      unfold itD
      rw [atI_nat (List.getElem?_eq_getElem hlt)]
      rfl
    simp [this]
  · refine ⟨q.all, ?_⟩
    obtain ⟨xs, hm, e⟩ := minLen_at hne
    obtain ⟨j, hj⟩ := List.getElem?_of_mem hm
    have hjl : j < ls.length := by rw [q.1]; exact (List.getElem?_eq_some_iff.mp hj).1
    exact ⟨ls[j], List.getElem_mem hjl, _, q.2 j _ xs (List.getElem?_eq_getElem hjl) hj, by simp [e]⟩
  · obtain ⟨T, us, rfl, hT, rfl, hul, hus⟩ := y
    refine ⟨T, rfl, hT, ?_⟩
    congr 2
    apply List.ext_getElem?
    intro j
    by_cases hj : j < xss.length
    · have hjl : j < ls.length := by rw [q.1]; exact hj
      have := hus j ls[j] (List.getElem?_eq_getElem hjl) _ (q.2 j _ xss[j] (List.getElem?_eq_getElem hjl) (List.getElem?_eq_getElem hj))
      rw [← this]
      have hlt : i < xss[j].length := Nat.lt_of_lt_of_le hi (minLen_le (List.getElem_mem hj))
      have hh : itD xss[j] (i : Int) = xss[j][i] := by
        unfold itD
        rw [atI_nat (List.getElem?_eq_getElem hlt)]
        rfl
      unfold colOf
      rw [List.getElem?_map, List.getElem?_eq_getElem hlt, List.getElem?_map, List.getElem?_map, List.getElem?_eq_getElem hj]
      simp [hh]
    · rw [List.getElem?_eq_none (by rw [hul, q.1]; omega), List.getElem?_eq_none (by simp [colOf]; omega)]
/-- rows of data that stays -/
theorem rows_rp {K : PySem.W.Frag} {G H : Hp} (e : Same G H) : ∀ {vs : List V} {xss : List (List Int)}, RpAll G vs (xss.map (encL PyData.int)) → ∃ ls, vs = ls.map V.ref ∧ RowsAt K H ls xss
  | _, [], h => by cases h; exact ⟨[], rfl, rfl, fun j l xs h1 _ => by simp at h1⟩
  | _, xs :: r, h => by
    cases h with
    | cons r1 rr =>
      obtain ⟨ls, rfl, h1, h2⟩ := rows_rp (K := K) e rr
      obtain ⟨a, rfl, ha⟩ := rp_ints r1
      refine ⟨a :: ls, rfl, by simp [h1], fun j l ys q1 q2 => ?_⟩
      cases j with
      | zero =>
        simp at q1 q2
        subst q1 q2
        exact SqL.of (e _ _ ha)
      | succ j => exact h2 j l ys (by simpa using q1) (by simpa using q2)
/-- rows of a tree of one's own -/
theorem rows_ow {K : PySem.W.Frag} {G H : Hp} {L : List Addr} {vs : List V} {xss : List (List Int)} (e : Same G H) (w : OwAll G H L vs (xss.map (oL oI))) : ∃ ls, vs = ls.map V.ref ∧ RowsAt K H ls xss :=
  rows_rp (Same.refl H) (w.rpA (encO_L encO_I) e)
/-- the same rows later -/
theorem RowsAt.again {K : PySem.W.Frag} {H : Hp} {ls : List Addr} {xss : List (List Int)} {vs : List V} (h1 : vs = ls.map V.ref) (h2 : ∃ ls', vs = ls'.map V.ref ∧ RowsAt K H ls' xss) : RowsAt K H ls xss := by
  obtain ⟨ls', e, r⟩ := h2
  have : ls' = ls := by
    have q := h1.symm.trans e
    have inj : ∀ {a b : List Addr}, a.map V.ref = b.map V.ref → a = b := by
      intro a
      induction a with
      | nil => intro b h; cases b with | nil => rfl | cons _ _ => cases h
      | cons x r ih => intro b h; cases b with | nil => cases h | cons y s => simp at h; rw [h.1, ih (by simpa using h.2)]
    exact (inj q).symm
  rw [this] at r
  exact r
/-- a comprehension over zip(*rows) -/
theorem lc_zipN {K : PySem.W.Frag} {ls : List Addr} {xss : List (List Int)} {g : TG} {tt : TT} {te : TE} {vs : List Nat} {σ : L2.St} {H1 : Hp} {D : Addr} {Qd : Hp → Prop} (hne : xss ≠ []) (Pv : Nat → Hp → Prop) (h0 : Pv 0 (upd H1 D (.lst []))) (hq : ∀ i H, i ≤ minLen xss → Pv i H → RowsAt K H ls xss)
    (hs : ∀ (i : Nat) (T : Addr) (H : Hp), i < minLen xss → H T = none → Pv i H → g (.ref T) (wipe σ vs) (upd H T (.tup ((colOf xss i).map V.int))) fun σ2 H2 => wipe σ2 vs = wipe σ vs ∧ tt σ2 H2 fun b H3 =>
      if b = true then te σ2 H3 fun y H4 => ∃ acc, H4 D = some (.lst acc) ∧ acc.length < sizeLine ∧ Pv (i + 1) (upd H4 D (.lst (acc ++ [y]))) else Pv (i + 1) H3) (hd : ∀ H, Pv (minLen xss) H → Qd H) :
    ∃ W : Nat → Nat → Hp → Prop, (∃ m, W 0 m (upd H1 D (.lst []))) ∧ ∀ i m H, W i m H →
      ((Vz.ItzN K ls).stop i H ∧ Qd H) ∨ ((Vz.ItzN K ls).go i H ∧ ∃ Nx : Hp → Prop, (∀ H', Nx H' → ∃ m', m' < m ∧ W (i + 1) m' H') ∧ ∀ x H', (Vz.ItzN K ls).yld i H x H' → g x (wipe σ vs) H' fun σ2 H2 => wipe σ2 vs = wipe σ vs ∧ tt σ2 H2 fun b H3 =>
        if b = true then te σ2 H3 fun y H4 => ∃ acc, H4 D = some (.lst acc) ∧ acc.length < sizeLine ∧ Nx (upd H4 D (.lst (acc ++ [y]))) else Nx H3) := by
  refine lc_it (walk_zipN hne) Pv h0 hq (fun i x H H' hi p y => ?_) hd
  obtain ⟨T, rfl, hT, rfl⟩ := y
  exact hs i T H hi hT p
end Vx
/-! # lists stored into trees -/
namespace Vx
open PySem PySem.Spec PyProof.Rows L2
section
variable {G H I : Hp} {α : Type} {f : α → Dt} {L : List Addr} {vs : List V} {xs : List α}
theorem OwAll.set {L1 : List Addr} {v : V} {d : Dt} (h : Ow G H L1 v d) : ∀ {L : List Addr} {vs : List V} {ds : List Dt} (i : Nat), i < ds.length → OwAll G H L vs ds → (∀ b ∈ L1, b ∉ L) → ∃ L', (∀ b ∈ L', b ∈ L ++ L1) ∧ OwAll G H L' (vs.set i v) (ds.set i d)
  | _, _, _, _, hi, .nil, _ => absurd hi (Nat.not_lt_zero _)
  | _, _, _, 0, _, .cons (L1 := La) (L2 := Lb) a r n, nf => by
    refine ⟨L1 ++ Lb, fun b hb => ?_, .cons h r fun b hb q => nf b hb (List.mem_append_right _ q)⟩
    rcases List.mem_append.mp hb with q | q
    · exact List.mem_append_right _ q
    · exact List.mem_append_left _ (List.mem_append_right _ q)
  | _, _, _, i + 1, hi, .cons (L1 := La) (L2 := Lb) a r n, nf => by
    obtain ⟨L', s, w⟩ := OwAll.set h i (Nat.lt_of_succ_lt_succ hi) r fun b hb q => nf b hb (List.mem_append_right _ q)
    refine ⟨La ++ L', fun b hb => ?_, .cons a w fun b hb q => ?_⟩
    · rcases List.mem_append.mp hb with q | q
      · exact List.mem_append_left _ (List.mem_append_left _ q)
      · rcases List.mem_append.mp (s b q) with z | z
        · exact List.mem_append_left _ (List.mem_append_right _ z)
        · exact List.mem_append_right _ z
    · rcases List.mem_append.mp (s b q) with z | z
      · exact n b hb z
      · exact nf b z (List.mem_append_left _ hb)
theorem ixN_len {k : Int} (e : vs.length = xs.length) (h : -(xs.length : Int) ≤ k ∧ k < xs.length) : ixN vs.length k = some ((ixN vs.length k).getD 0) := by
  rw [e]
  obtain ⟨j, hj, _⟩ := ixN_some h
  rw [hj]
  rfl
theorem OwAll.setM {k : Int} {L1 : List Addr} {v : V} {y : α} (w : OwAll G H L vs (xs.map f)) (h : -(xs.length : Int) ≤ k ∧ k < xs.length) (ow : Ow G H L1 v (f y)) (n : ∀ b ∈ L1, b ∉ L) :
    ∃ L', (∀ b ∈ L', b ∈ L ++ L1) ∧ OwAll G H L' (vs.set ((ixN vs.length k).getD 0) v) ((setL xs k y).map f) := by
  obtain ⟨j, e, hj⟩ := ixN_some h
  obtain ⟨L', s, z⟩ := OwAll.set ow j (by simpa using hj) w n
  refine ⟨L', s, ?_⟩
  unfold setL
  rw [w.lenM, e, List.map_set]
  exact z
end
theorem ne_of_len {α : Type} {xs : List α} (h : 1 ≤ xs.length ∧ xs.length ≤ 1000000) : xs ≠ [] := by
  rintro rfl
  simp at h
end Vx
namespace Vx
open PySem PySem.Spec PyProof.Rows L2
/-! ### written dicts of ints -/
inductive EI : List (Int × Int) → List DictEntry → Prop
  | nil : EI [] []
  | cons {k v : Int} {t u : Tok} {r : List (Int × Int)} {es : List DictEntry} (h : EI r es) : EI ((k, v) :: r) (⟨hashInt k, .int k t, .int v u⟩ :: es)
def lookI : List (Int × Int) → Int → Option Int
  | [], _ => none
  | (k, v) :: r, i => if i = k then some v else lookI r i
def KDI (K : PySem.W.Frag) (a : Addr) (kvs : List (Int × Int)) : Prop :=
  ∃ es n, K.lookup a = some ⟨.type "dict", none, .dict es n, #[]⟩ ∧ (a == sysModules) = false ∧ EI kvs es.toList
theorem lookI_mem {kvs : List (Int × Int)} {i : Int} : (lookI kvs i).isSome = decide (i ∈ kvs.map (·.1)) := by
  induction kvs with
  | nil => rfl
  | cons p r ih =>
    obtain ⟨k, v⟩ := p
    unfold lookI
    by_cases q : i = k
    · rw [if_pos q]; simp [q]
    · rw [if_neg q, ih]; simp [q]
theorem EI.find {i : Int} : ∀ {kvs : List (Int × Int)} {es : List DictEntry}, EI kvs es → match lookI kvs i with
    | some v => ∃ u, (es.find? fun e => keyIs (.inl i) e.key).map (·.val) = some (.int v u)
    | none => (es.find? fun e => keyIs (.inl i) e.key).map (·.val) = none
  | _, _, .nil => rfl
  | _, _, .cons (k := k) (v := v) (t := t) (u := u) (r := r) (es := es) h => by
    have ih := EI.find (i := i) h
    unfold lookI
    by_cases q : i = k
    · subst q
      rw [if_pos rfl]
      refine ⟨u, ?_⟩
      rw [List.find?_cons_of_pos (by exact keyIs_int i t)]
      rfl
    · rw [if_neg q]
      have e : ¬ (keyIs (.inl i) (Value.int k t) = true) := by
        intro z
        obtain ⟨t', e'⟩ := Value.isInt_shape (k := i) (v := Value.int k t) z
        injection e' with e1 _
        exact q e1.symm
      rw [List.find?_cons_of_neg (by exact e)]
      exact ih
theorem EI.keys {P : Program} {w : World} : ∀ {kvs : List (Int × Int)} {es : List DictEntry}, EI kvs es → ∀ e ∈ es, ∃ k, (mixKind P w).is k e.key = true ∧ e.hash = (mixKind P w).hash k
  | _, _, .nil, e, he => nomatch he
  | _, _, .cons (k := k) (t := t) h, e, he => by
    rcases List.mem_cons.mp he with rfl | he
    · exact ⟨.inl k, keyIs_int k t, rfl⟩
    · exact EI.keys h e he
section
variable {X : Cx} {K : PySem.W.Frag}
theorem KDI.map {d : Addr} {kvs : List (Int × Int)} {pins : List (Addr × Obj)} {σ : L2.St} {H : Hp} {s : Shared} (D : KDI X.K d kvs) (I : Inv X pins σ H s) : (d == sysModules) = false ∧ ∃ f, s.heap.MapOf (mixKind X.prog X.w) d f ∧ ∀ i, match lookI kvs i with
    | some v => ∃ u, f (.inl i) = some (.int v u)
    | none => f (.inl i) = none := by
  obtain ⟨es, n, hl, hd, he⟩ := D
  refine ⟨hd, fun k => findBy keyIs es k, ⟨_, es, n, I.kIn _ _ hl, ⟨rfl, rfl, rfl⟩, rfl, fun e q => EI.keys he e (Array.mem_toList_iff.mpr q), fun _ => rfl⟩, fun i => ?_⟩
  have := EI.find (i := i) he
  have e : findBy keyIs es (.inl i) = (es.toList.find? fun e => keyIs (.inl i) e.key).map (·.val) := by
    obtain ⟨l⟩ := es
    unfold findBy
    rw [List.find?_toArray]
  show match lookI kvs i with
    | some v => ∃ u, findBy keyIs es (.inl i) = some (.int v u)
    | none => findBy keyIs es (.inl i) = none
  rw [e]
  exact this
def rInDI (K : PySem.W.Frag) : R2 := fun x y H Q => ∃ (i : Int) (d : Addr) (kvs : List (Int × Int)) (ks : List Int), x = .int i ∧ y = .ref d ∧ KDI K d kvs ∧ ks = kvs.map (·.1) ∧ Q (.bl (decide (i ∈ ks))) H
def rNotInDI (K : PySem.W.Frag) : R2 := fun x y H Q => ∃ (i : Int) (d : Addr) (kvs : List (Int × Int)) (ks : List Int), x = .int i ∧ y = .ref d ∧ KDI K d kvs ∧ ks = kvs.map (·.1) ∧ Q (.bl (!decide (i ∈ ks))) H
def rIxDI (K : PySem.W.Frag) : R2 := fun x y H Q => ∃ (d : Addr) (i v : Int) (kvs : List (Int × Int)), x = .ref d ∧ y = .int i ∧ KDI K d kvs ∧ lookI kvs i = some v ∧ Q (.int v) H
theorem op_inDI (hK : X.K = K := by rfl) : OpR X (compareOp .In) (rInDI K) := by
  subst hK
  intro pins s σ H x y v u Q I rx ry h
  obtain ⟨i, d, kvs, ks, rfl, rfl, D, rfl, q⟩ := h
  rw [← lookI_mem] at q
  obtain ⟨t, rfl⟩ := rx
  cases ry
  obtain ⟨hd, f, hm, hf⟩ := D.map I
  refine wpAny_in_of (knd := mixKind X.prog X.w) (kV_is (k := .inl i) ⟨t, rfl⟩) hd hm ?_
  have e : (f (.inl i)).isSome = (lookI kvs i).isSome := by
    have := hf i
    split at this
    · next v hv => obtain ⟨u, hu⟩ := this; rw [hu, hv]; rfl
    · next hv => rw [this, hv]; rfl
  rw [e]
  exact ⟨.bl (lookI kvs i).isSome, H, I.tok _, rfl, q⟩
theorem op_notInDI (hK : X.K = K := by rfl) : OpR X (compareOp .NotIn) (rNotInDI K) := by
  subst hK
  intro pins s σ H x y v u Q I rx ry h
  obtain ⟨i, d, kvs, ks, rfl, rfl, D, rfl, q⟩ := h
  rw [← lookI_mem] at q
  obtain ⟨t, rfl⟩ := rx
  cases ry
  obtain ⟨hd, f, hm, hf⟩ := D.map I
  refine wpAny_notIn_of (knd := mixKind X.prog X.w) (kV_is (k := .inl i) ⟨t, rfl⟩) hd hm ?_
  have e : (f (.inl i)).isSome = (lookI kvs i).isSome := by
    have := hf i
    split at this
    · next v hv => obtain ⟨u, hu⟩ := this; rw [hu, hv]; rfl
    · next hv => rw [this, hv]; rfl
  rw [e]
  exact ⟨.bl (!(lookI kvs i).isSome), H, I.tok _, rfl, q⟩
theorem ix_DI (hK : X.K = K := by rfl) : IxR X (rIxDI K) := by
  subst hK
  intro value slice pins s σ H x y v u Q I rx ry h hs
  obtain ⟨p, i, r, kvs, rfl, rfl, D, e, q⟩ := h
  obtain rfl : v = Value.ref p := rx
  obtain ⟨t, rfl⟩ := ry
  obtain ⟨hd, f, hm, hf⟩ := D.map I
  have := hf i
  rw [e] at this
  obtain ⟨u, hu⟩ := this
  exact tail_any hm.typeIs slot_dict_getitem.lookup (wpAny_getItem_of (knd := mixKind X.prog X.w) (kV_is (k := .inl i) ⟨t, rfl⟩) hm hu ⟨.int r, H, I.tok _, ⟨_, rfl⟩, q⟩) hs
end
/-- the value at a key that is there -/
def dictI (kvs : List (Int × Int)) (i : Int) : Int := (lookI kvs i).getD 0
theorem lookI_at {kvs : List (Int × Int)} {i : Int} (h : i ∈ kvs.map (·.1)) : lookI kvs i = some (dictI kvs i) := by
  have := lookI_mem (kvs := kvs) (i := i)
  rw [decide_eq_true h] at this
  unfold dictI
  cases e : lookI kvs i with
  | none => rw [e] at this; cases this
  | some v => rfl
/-! ### walks over two lists, over numbered items, backwards -/
theorem pi_enumK {X : Cx} {K : PySem.W.Frag} {e : Expr} {ta : TA} {p pos tpos : Pos} {elts : List Expr} {kk : Nat} (hg : Gl X "enumerate") (hm : X.mg "enumerate" = none) (ha : PA X [e] ta) (hK : X.K = K := by rfl) (hs : starEach [e] X.env = [(false, eval e X.env)] := by rfl) :
    PI X (.Tuple elts kk tpos) (.Call (.Name "enumerate" p) [e] [] pos) (iEnum K ta) := hK ▸ pi_enum hg hm ha hs
section
variable {K : PySem.W.Frag} {a b : Addr} {xs ys : List V} {g : TG} {tb : TS} {tt : TT} {te : TE} {D : Ends} {σ : L2.St} {H H1 : Hp} {vs : List Nat} {DD : Addr} {Qd : Hp → Prop}
theorem for_enum (Pv : Nat → L2.St → Hp → Prop) (h0 : Pv 0 σ H) (hq : ∀ i σ H, Pv i σ H → SqL K H a xs)
    (hs : ∀ (i : Nat) (y : V) (T : Addr) (σ : L2.St) (H : Hp), xs[i]? = some y → H T = none → Pv i σ H → g (.ref T) σ (upd H T (.tup [.int (i : Nat), y])) fun σ2 H2 => tb { D with nx := Pv (i + 1), ct := Pv (i + 1), bk := D.nx } σ2 H2) (hd : ∀ σ H, Pv xs.length σ H → D.nx σ H) :
    ∃ W : Nat → Nat → L2.St → Hp → Prop, (∃ m, W 0 m σ H) ∧ ∀ i m σ H, W i m σ H →
      ((Ite K a).stop i H ∧ D.nx σ H) ∨ ((Ite K a).go i H ∧ ∃ N : L2.St → Hp → Prop, (∀ σ' H', N σ' H' → ∃ m', m' < m ∧ W (i + 1) m' σ' H') ∧ ∀ v H', (Ite K a).yld i H v H' → g v σ H' fun σ2 H2 => tb { D with nx := N, ct := N, bk := D.nx } σ2 H2) := by
  refine for_it walk_enum Pv h0 (fun i σ H _ p => hq i σ H p) (fun i x σ H H' hi p y => ?_) hd
  obtain ⟨T, x1, y1, rfl, hT, rfl, h1, h2⟩ := y
  cases h1
  exact hs i y1 T σ H h2 hT p
theorem lc_enum (Pv : Nat → Hp → Prop) (h0 : Pv 0 (upd H1 DD (.lst []))) (hq : ∀ i H, i ≤ xs.length → Pv i H → SqL K H a xs)
    (hs : ∀ (i : Nat) (y : V) (T : Addr) (H : Hp), xs[i]? = some y → H T = none → Pv i H → g (.ref T) (wipe σ vs) (upd H T (.tup [.int (i : Nat), y])) fun σ2 H2 => wipe σ2 vs = wipe σ vs ∧ tt σ2 H2 fun b H3 =>
      if b = true then te σ2 H3 fun y H4 => ∃ acc, H4 DD = some (.lst acc) ∧ acc.length < sizeLine ∧ Pv (i + 1) (upd H4 DD (.lst (acc ++ [y]))) else Pv (i + 1) H3) (hd : ∀ H, Pv xs.length H → Qd H) :
    ∃ W : Nat → Nat → Hp → Prop, (∃ m, W 0 m (upd H1 DD (.lst []))) ∧ ∀ i m H, W i m H →
      ((Ite K a).stop i H ∧ Qd H) ∨ ((Ite K a).go i H ∧ ∃ Nx : Hp → Prop, (∀ H', Nx H' → ∃ m', m' < m ∧ W (i + 1) m' H') ∧ ∀ x H', (Ite K a).yld i H x H' → g x (wipe σ vs) H' fun σ2 H2 => wipe σ2 vs = wipe σ vs ∧ tt σ2 H2 fun b H3 =>
        if b = true then te σ2 H3 fun y H4 => ∃ acc, H4 DD = some (.lst acc) ∧ acc.length < sizeLine ∧ Nx (upd H4 DD (.lst (acc ++ [y]))) else Nx H3) := by
  refine lc_it walk_enum Pv h0 hq (fun i x H H' hi p y => ?_) hd
  obtain ⟨T, x1, y1, rfl, hT, rfl, h1, h2⟩ := y
  cases h1
  exact hs i y1 T H h2 hT p
/-- zip of two lists of any lengths -/
theorem for_zipM (n : Nat) (hn : n = min xs.length ys.length) (Pv : Nat → L2.St → Hp → Prop) (h0 : Pv 0 σ H) (hq : ∀ i σ H, Pv i σ H → SqL K H a xs ∧ SqL K H b ys)
    (hs : ∀ (i : Nat) (x y : V) (T : Addr) (σ : L2.St) (H : Hp), xs[i]? = some x → ys[i]? = some y → H T = none → Pv i σ H → g (.ref T) σ (upd H T (.tup [x, y])) fun σ2 H2 => tb { D with nx := Pv (i + 1), ct := Pv (i + 1), bk := D.nx } σ2 H2) (hd : ∀ σ H, Pv n σ H → D.nx σ H) :
    ∃ W : Nat → Nat → L2.St → Hp → Prop, (∃ m, W 0 m σ H) ∧ ∀ i m σ H, W i m σ H →
      ((Itz K a b).stop i H ∧ D.nx σ H) ∨ ((Itz K a b).go i H ∧ ∃ N : L2.St → Hp → Prop, (∀ σ' H', N σ' H' → ∃ m', m' < m ∧ W (i + 1) m' σ' H') ∧ ∀ v H', (Itz K a b).yld i H v H' → g v σ H' fun σ2 H2 => tb { D with nx := N, ct := N, bk := D.nx } σ2 H2) := by
  refine for_it (walk_zip hn) Pv h0 (fun i σ H _ p => hq i σ H p) (fun i x σ H H' hi p y => ?_) hd
  obtain ⟨T, x1, y1, rfl, hT, rfl, h1, h2⟩ := y
  exact hs i x1 y1 T σ H h1 h2 hT p
theorem lc_zipM (n : Nat) (hn : n = min xs.length ys.length) (Pv : Nat → Hp → Prop) (h0 : Pv 0 (upd H1 DD (.lst []))) (hq : ∀ i H, i ≤ n → Pv i H → SqL K H a xs ∧ SqL K H b ys)
    (hs : ∀ (i : Nat) (x y : V) (T : Addr) (H : Hp), xs[i]? = some x → ys[i]? = some y → H T = none → Pv i H → g (.ref T) (wipe σ vs) (upd H T (.tup [x, y])) fun σ2 H2 => wipe σ2 vs = wipe σ vs ∧ tt σ2 H2 fun b H3 =>
      if b = true then te σ2 H3 fun y H4 => ∃ acc, H4 DD = some (.lst acc) ∧ acc.length < sizeLine ∧ Pv (i + 1) (upd H4 DD (.lst (acc ++ [y]))) else Pv (i + 1) H3) (hd : ∀ H, Pv n H → Qd H) :
    ∃ W : Nat → Nat → Hp → Prop, (∃ m, W 0 m (upd H1 DD (.lst []))) ∧ ∀ i m H, W i m H →
      ((Itz K a b).stop i H ∧ Qd H) ∨ ((Itz K a b).go i H ∧ ∃ Nx : Hp → Prop, (∀ H', Nx H' → ∃ m', m' < m ∧ W (i + 1) m' H') ∧ ∀ x H', (Itz K a b).yld i H x H' → g x (wipe σ vs) H' fun σ2 H2 => wipe σ2 vs = wipe σ vs ∧ tt σ2 H2 fun b H3 =>
        if b = true then te σ2 H3 fun y H4 => ∃ acc, H4 DD = some (.lst acc) ∧ acc.length < sizeLine ∧ Nx (upd H4 DD (.lst (acc ++ [y]))) else Nx H3) := by
  refine lc_it (walk_zip hn) Pv h0 hq (fun i x H H' hi p y => ?_) hd
  obtain ⟨T, x1, y1, rfl, hT, rfl, h1, h2⟩ := y
  exact hs i x1 y1 T H h1 h2 hT p
end
theorem zipM_len {α β : Type} {xs : List α} {ys : List β} : min xs.length ys.length = (xs.zip ys).length := by rw [List.length_zip]
theorem zipM_n {α β : Type} {vs ws : List V} {xs : List α} {ys : List β} (a : vs.length = xs.length) (b : ws.length = ys.length) : min xs.length ys.length = min vs.length ws.length := by rw [a, b]
def rListTK (K : PySem.W.Frag) : List V → Hp → VK → Prop := fun xs H Q => ∃ (p : Addr) (vs : List V), xs = [.ref p] ∧ SqT K H p vs ∧ ∀ l, H l = none → Q (.ref l) (upd H l (.lst vs))
theorem call_listTK {X : Cx} {K : PySem.W.Frag} (hK : X.K = K := by rfl) : CallR X (.type "list") (rListTK K) := by
  subst hK
  intro pins s σ H xs us Q I r h
  obtain ⟨p, vs, rfl, hs, q⟩ := h
  exact call_list_of pins s σ H _ us Q I r ⟨p, _, rfl, Or.inr hs, q⟩
/-- two lists that keep step -/
inductive F2 {α β : Type} (P : α → β → Prop) : List α → List β → Prop
  | nil : F2 P [] []
  | cons {a : α} {b : β} {l : List α} {m : List β} (h : P a b) (t : F2 P l m) : F2 P (a :: l) (b :: m)
theorem F2.get {α β : Type} {P : α → β → Prop} : ∀ {l : List α} {m : List β}, F2 P l m → ∀ (j : Nat), j < l.length → ∃ a b, l[j]? = some a ∧ m[j]? = some b ∧ P a b
  | _, _, .nil, j, h => absurd h (Nat.not_lt_zero _)
  | _, _, .cons h t, 0, _ => ⟨_, _, rfl, rfl, h⟩
  | _, _, .cons h t, j + 1, hj => t.get j (Nat.lt_of_succ_lt_succ hj)
theorem F2.at {α β : Type} [Inhabited α] [Inhabited β] {P : α → β → Prop} {l : List α} {m : List β} (h : F2 P l m) (k : Int) (h0 : 0 ≤ k) (h1 : k < l.length) : P (itD l k) (itD m k) := by
  obtain ⟨j, rfl⟩ : ∃ j : Nat, k = (j : Int) := ⟨k.toNat, by omega⟩
  obtain ⟨a, b, ha, hb, p⟩ := h.get j (by omega)
  have e1 : itD l (j : Int) = a := by unfold itD; rw [atI_nat ha]; rfl
  have e2 : itD m (j : Int) = b := by unfold itD; rw [atI_nat hb]; rfl
  rw [e1, e2]
  exact p
theorem SqT.cast {K : PySem.W.Frag} {H : Hp} {a : Addr} {xs ys : List V} (h : SqT K H a xs) (e : xs = ys) : SqT K H a ys := e ▸ h
/-- enumerate(xs) -/
def enumL {α : Type} (xs : List α) : List (Int × α) := (rng 0 xs.length).zip xs
theorem enumL_len {α : Type} (xs : List α) : (enumL xs).length = xs.length := by
  unfold enumL
  rw [List.length_zip, rng_len, Nat.min_self]
theorem enumL_get {α : Type} {xs : List α} {i : Nat} {x : α} (h : xs[i]? = some x) : (enumL xs)[i]? = some ((i : Int), x) := by
  have hl : i < xs.length := (List.getElem?_eq_some_iff.mp h).1
  unfold enumL
  rw [List.getElem?_zip_eq_some]
  refine ⟨?_, h⟩
  have := rng_get (lo := 0) hl
  rw [this]
  congr 1
  omega
end Vx
namespace Vx
open PySem PySem.Spec PyProof.Rows L2
theorem wipe_get : ∀ (σ : L2.St) (vs : List Nat) (j : Nat), (wipe σ vs)[j]? = if j ∈ vs ∧ j < σ.length then some none else σ[j]?
  | σ, [], j => by simp [wipe]
  | σ, v :: vs, j => by
    unfold wipe
    by_cases e : v = j
    · subst e
      by_cases h : v < σ.length
      · rw [List.getElem?_set_self (by rw [wipe_length]; exact h), if_pos ⟨List.mem_cons_self, h⟩]
      · rw [if_neg (fun z => h z.2), List.getElem?_eq_none (by rw [List.length_set, wipe_length]; omega), List.getElem?_eq_none (by omega)]
    · rw [List.getElem?_set_ne e, wipe_get σ vs j]
      have : (j ∈ v :: vs ∧ j < σ.length) ↔ (j ∈ vs ∧ j < σ.length) := by
        constructor
        · rintro ⟨h1, h2⟩
          rcases List.mem_cons.mp h1 with rfl | h1
          · exact absurd rfl e
          · exact ⟨h1, h2⟩
        · rintro ⟨h1, h2⟩
          exact ⟨List.mem_cons_of_mem _ h1, h2⟩
      by_cases q : j ∈ vs ∧ j < σ.length
      · rw [if_pos q, if_pos (this.mpr q)]
      · rw [if_neg q, if_neg (fun z => q (this.mp z))]
theorem wipe_wipe {σ : L2.St} {vs : List Nat} : wipe (wipe σ vs) vs = wipe σ vs := by
  apply List.ext_getElem?
  intro j
  rw [wipe_get (wipe σ vs), wipe_length]
  by_cases q : j ∈ vs ∧ j < σ.length
  · rw [if_pos q, wipe_get, if_pos q]
  · rw [if_neg q]
theorem wipe_set {σ : L2.St} {vs : List Nat} {v : Nat} {x : Option V} (h : v ∈ vs) : wipe (σ.set v x) vs = wipe σ vs := by
  apply List.ext_getElem?
  intro j
  rw [wipe_get, wipe_get, List.length_set]
  by_cases q : j ∈ vs ∧ j < σ.length
  · rw [if_pos q, if_pos q]
  · rw [if_neg q, if_neg q]
    by_cases e : v = j
    · subst e
      have hl : ¬ v < σ.length := fun z => q ⟨h, z⟩
      rw [List.getElem?_eq_none (by rw [List.length_set]; omega), List.getElem?_eq_none (by omega)]
    · rw [List.getElem?_set_ne e]
/-- a comprehension over a step range -/
theorem lc_rangeC {lo c : Int} {n : Nat} {g : TG} {tt : TT} {te : TE} {vs : List Nat} {σ : L2.St} {H1 : Hp} {D : Addr} {Qd : Hp → Prop} (Pv : Nat → Hp → Prop) (h0 : Pv 0 (upd H1 D (.lst [])))
    (hs : ∀ i H, i < n → Pv i H → g (.int (lo + (i : Nat) * c)) (wipe σ vs) H fun σ2 H2 => wipe σ2 vs = wipe σ vs ∧ tt σ2 H2 fun b H3 =>
      if b = true then te σ2 H3 fun y H4 => ∃ acc, H4 D = some (.lst acc) ∧ acc.length < sizeLine ∧ Pv (i + 1) (upd H4 D (.lst (acc ++ [y]))) else Pv (i + 1) H3) (hd : ∀ H, Pv n H → Qd H) :
    ∃ W : Nat → Nat → Hp → Prop, (∃ m, W 0 m (upd H1 D (.lst []))) ∧ ∀ i m H, W i m H →
      ((Itc lo c n).stop i H ∧ Qd H) ∨ ((Itc lo c n).go i H ∧ ∃ Nx : Hp → Prop, (∀ H', Nx H' → ∃ m', m' < m ∧ W (i + 1) m' H') ∧ ∀ x H', (Itc lo c n).yld i H x H' → g x (wipe σ vs) H' fun σ2 H2 => wipe σ2 vs = wipe σ vs ∧ tt σ2 H2 fun b H3 =>
        if b = true then te σ2 H3 fun y H4 => ∃ acc, H4 D = some (.lst acc) ∧ acc.length < sizeLine ∧ Nx (upd H4 D (.lst (acc ++ [y]))) else Nx H3) := by
  refine ⟨fun i m H => m = n - i ∧ i ≤ n ∧ Pv i H, ⟨n, by simp, Nat.zero_le _, h0⟩, ?_⟩
  rintro i m H ⟨rfl, hi, p⟩
  rcases Nat.lt_or_ge i n with hlt | hge
  · refine .inr ⟨hlt, Pv (i + 1), fun H' p' => ⟨n - (i + 1), by omega, rfl, hlt, p'⟩, fun x H' y => ?_⟩
    obtain ⟨e, y⟩ := y
    subst e y
    exact hs i _ hlt p
  · cases Nat.le_antisymm hi hge
    exact .inl ⟨Nat.le_refl _, hd H p⟩

/-! ### reversed(list of ints), any(list of ints) -/
theorem pi_revK {X : Cx} {K : PySem.W.Frag} {tg : Expr} {e : Expr} {ta : TA} {p pos : Pos} (hg : Gl X "reversed") (hm : X.mg "reversed" = none) (ha : PA X [e] ta) (hK : X.K = K := by rfl) (hs : starEach [e] X.env = [(false, eval e X.env)] := by rfl) :
    PI X tg (.Call (.Name "reversed" p) [e] [] pos) (iRev K ta) := hK ▸ pi_reversed hg hm ha hs
theorem for_revI {K : PySem.W.Frag} {a : Addr} {xs : List Int} {g : TG} {tb : TS} {D : Ends} {σ : L2.St} {H : Hp} (Pv : Nat → L2.St → Hp → Prop) (h0 : Pv 0 σ H) (hl : ∀ i σ H, i ≤ (xs.reverse.map V.int).length → Pv i σ H → SqL K H a (xs.map V.int))
    (hs : ∀ i x σ H, (xs.reverse.map V.int)[i]? = some x → Pv i σ H → g x σ H fun σ2 H2 => tb { D with nx := Pv (i + 1), ct := Pv (i + 1), bk := D.nx } σ2 H2) (hd : ∀ σ H, Pv (xs.reverse.map V.int).length σ H → D.nx σ H) :
    ∃ W : Nat → Nat → L2.St → Hp → Prop, (∃ m, W 0 m σ H) ∧ ∀ i m σ H, W i m σ H →
      ((Itv K a (xs.map V.int).length).stop i H ∧ D.nx σ H) ∨ ((Itv K a (xs.map V.int).length).go i H ∧ ∃ N : L2.St → Hp → Prop, (∀ σ' H', N σ' H' → ∃ m', m' < m ∧ W (i + 1) m' σ' H') ∧ ∀ x H', (Itv K a (xs.map V.int).length).yld i H x H' → g x σ H' fun σ2 H2 => tb { D with nx := N, ct := N, bk := D.nx } σ2 H2) := by
  have en : (xs.reverse.map V.int).length = (xs.map V.int).length := by rw [List.length_map, List.length_map, List.length_reverse]
  rw [en] at hl hd
  refine for_it walk_rev Pv h0 hl (fun i x σ H H' hi p y => ?_) hd
  obtain ⟨rfl, hx⟩ := y
  refine hs i x σ _ ?_ p
  rw [List.map_reverse, List.getElem?_reverse hi]
  exact hx
theorem ints_get : ∀ {ns : List Int} {us : List Value} {i : Nat} {v : Value}, IntsAre us ns → us[i]? = some v → ∃ t, v = .int (ns.getD i 0) t := by
  intro ns us i v h
  induction h generalizing i with
  | nil => intro z; simp at z
  | cons n t _ ih =>
    intro z
    cases i with
    | zero => simp at z; exact ⟨t, by rw [← z]; rfl⟩
    | succ i => exact ih (by simpa using z)
theorem any_rangeI : ∀ ns : List Int, (List.range ns.length).any (fun i => ns.getD i 0 != 0) = ns.any (fun x => x != 0)
  | [] => rfl
  | b :: bs => by
    rw [List.length_cons, List.range_succ_eq_map, List.any_cons, List.any_map, List.any_cons, ← any_rangeI bs]
    all_goals rfl
theorem ints_len : ∀ {ns : List Int} {us : List Value}, IntsAre us ns → us.length = ns.length := by
  intro ns us h
  induction h with
  | nil => rfl
  | cons _ _ _ ih => simp [ih]
def rAnyI (K : PySem.W.Frag) : List V → Hp → VK → Prop := fun vs H Q => ∃ (a : Addr) (ns : List Int), vs = [V.ref a] ∧ SqL K H a (ns.map V.int) ∧ Q (.bl (ns.any fun x => x != 0)) H
theorem cr_anyI {X : Cx} (hc : X.calm = true) : CallR X (.builtin "any") (rAnyI X.K) := by
  intro pins s σ H vs us Q I r h
  obtain ⟨a, ns, rfl, hs, q⟩ := h
  obtain ⟨its, rv, hl, _⟩ := I.list hs
  rw [Vals.ref1 r]
  have hb := rv.ints
  refine call_any_walk (iter_any hl.isList fun s₂ e2 st hne => ?_)
  subst e2
  have ht : TruthOf X.prog X.w X.A.in1 (fun i v => its.toArray[i]? = some v) (fun i => ns.getD i 0 != 0) := fun i v s Q E hv hq => by
    obtain ⟨t, rfl⟩ := ints_get hb (by simpa using hv)
    exact PyProof.Rows.truthy_int hq
  refine ⟨_, _, _, _, _, _, _, rfl, Walks.list (A := X.A.in1) (I.ok.hd hc) _ a hne its.toArray, st, ht, fun h' tk hk => ?_⟩
  refine ⟨.bl _, H, I.kept fun b o eo => hk b o (fun hmem => ?_) (Heap.get?_push_of_some _ eo), ?_, q⟩
  · rcases List.mem_cons.mp hmem with e1 | hmem
    · exact absurd (e1 ▸ Heap.lt_size eo) (Nat.lt_irrefl _)
    · cases hmem
  · show Value.bool _ = Value.bool _
    rw [← any_rangeI, List.size_toArray, ints_len hb]
theorem cr_anyIK {X : Cx} {K : PySem.W.Frag} (hc : X.calm = true) (hK : X.K = K := by rfl) : CallR X (.builtin "any") (rAnyI K) := hK ▸ cr_anyI hc
/-- an item of a list of data stored anew -/
theorem RpAll.setM {α : Type} {f : α → PyData} {G : Hp} {vs : List V} {xs : List α} {k : Int} {v : V} {y : α} (d : RpAll G vs (xs.map f)) (r : Rp G v (f y)) : RpAll G (vs.set ((ixN vs.length k).getD 0) v) ((setL xs k y).map f) := by
  have e : vs.length = xs.length := by rw [d.len, List.length_map]
  unfold setL
  rw [List.map_set, e]
  exact RpAll.set r _ d
end Vx
/-! # data of any shape: None beside data, tuples of several shapes -/
namespace Vx
open PySem PySem.Spec PyProof.Rows L2
def encD (d : PyData) : PyData := d
def encN (_ : Unit) : PyData := .none
def encT1 {α : Type} (f : α → PyData) (x : α) : PyData := .tuple [f x]
instance instInhD : Inhabited PyData := ⟨.none⟩
/-- a known shape: what is laid, what is read back, whether the data has the shape -/
structure Cst (α : Type) where
  enc : α → PyData
  dec : PyData → α
  ok : PyData → Bool
  h : ∀ d, ok d = true → enc (dec d) = d
  oke : ∀ x, ok (enc x) = true
  de : ∀ x, dec (enc x) = x
def cI : Cst Int := ⟨PyData.int, fun d => match d with | .int i => i | _ => 0, fun d => match d with | .int _ => true | _ => false, fun d h => (by cases d <;> first | rfl | (cases h)), fun _ => rfl, fun _ => rfl⟩
def cB : Cst Bool := ⟨PyData.bool, fun d => match d with | .bool i => i | _ => false, fun d => match d with | .bool _ => true | _ => false, fun d h => (by cases d <;> first | rfl | (cases h)), fun _ => rfl, fun _ => rfl⟩
def cS : Cst Str := ⟨PyData.str, fun d => match d with | .str i => i | _ => "", fun d => match d with | .str _ => true | _ => false, fun d h => (by cases d <;> first | rfl | (cases h)), fun _ => rfl, fun _ => rfl⟩
def cN : Cst Unit := ⟨encN, fun _ => (), fun d => match d with | .none => true | _ => false, fun d h => (by cases d <;> first | rfl | (cases h)), fun _ => rfl, fun _ => rfl⟩
def cD : Cst PyData := ⟨encD, fun d => d, fun _ => true, fun _ _ => rfl, fun _ => rfl, fun _ => rfl⟩
theorem map_dec {α : Type} (c : Cst α) : ∀ xs : List PyData, xs.all c.ok = true → (xs.map c.dec).map c.enc = xs
  | [], _ => rfl
  | x :: xs, h => by
    rw [List.all_cons, Bool.and_eq_true] at h
    rw [List.map_cons, List.map_cons, c.h x h.1, map_dec c xs h.2]
def cL {α : Type} (c : Cst α) : Cst (List α) where
  enc := encL c.enc
  dec := fun d => match d with | .list xs => xs.map c.dec | _ => []
  ok := fun d => match d with | .list xs => xs.all c.ok | _ => false
  h := fun d h => by
    cases d with
    | list xs => exact congrArg PyData.list (map_dec c xs h)
    | _ => cases h
  oke := fun x => by
    show (x.map c.enc).all c.ok = true
    rw [List.all_map, List.all_eq_true]
    exact fun a _ => c.oke a
  de := fun x => by
    show (x.map c.enc).map c.dec = x
    rw [List.map_map]
    have e : c.dec ∘ c.enc = id := funext c.de
    rw [e, List.map_id]
def cT1 {α : Type} (a : Cst α) : Cst α where
  enc := encT1 a.enc
  dec := fun d => match d with | .tuple [x] => a.dec x | _ => a.dec .none
  ok := fun d => match d with | .tuple [x] => a.ok x | _ => false
  h := fun d h => by
    split at h
    · next x => exact congrArg (fun z => PyData.tuple [z]) (a.h x h)
    · cases h
  oke := fun x => a.oke x
  de := fun x => a.de x
def cT2 {α β : Type} (a : Cst α) (b : Cst β) : Cst (α × β) where
  enc := encT2 a.enc b.enc
  dec := fun d => match d with | .tuple [x, y] => (a.dec x, b.dec y) | _ => (a.dec .none, b.dec .none)
  ok := fun d => match d with | .tuple [x, y] => a.ok x && b.ok y | _ => false
  h := fun d h => by
    split at h
    · next x y =>
      rw [Bool.and_eq_true] at h
      show PyData.tuple [a.enc (a.dec x), b.enc (b.dec y)] = _
      rw [a.h x h.1, b.h y h.2]
    · cases h
  oke := fun x => by show (a.ok (a.enc x.1) && b.ok (b.enc x.2)) = true; rw [a.oke, b.oke]; rfl
  de := fun x => by show (a.dec (a.enc x.1), b.dec (b.enc x.2)) = x; rw [a.de, b.de]
def cT3 {α β γ : Type} (a : Cst α) (b : Cst β) (c : Cst γ) : Cst (α × β × γ) where
  enc := encT3 a.enc b.enc c.enc
  dec := fun d => match d with | .tuple [x, y, z] => (a.dec x, b.dec y, c.dec z) | _ => (a.dec .none, b.dec .none, c.dec .none)
  ok := fun d => match d with | .tuple [x, y, z] => a.ok x && b.ok y && c.ok z | _ => false
  h := fun d h => by
    split at h
    · next x y z =>
      simp only [Bool.and_eq_true] at h
      show PyData.tuple [a.enc (a.dec x), b.enc (b.dec y), c.enc (c.dec z)] = _
      rw [a.h x h.1.1, b.h y h.1.2, c.h z h.2]
    · cases h
  oke := fun x => by show (a.ok (a.enc x.1) && b.ok (b.enc x.2.1) && c.ok (c.enc x.2.2)) = true; rw [a.oke, b.oke, c.oke]; rfl
  de := fun x => by show (a.dec (a.enc x.1), b.dec (b.enc x.2.1), c.dec (c.enc x.2.2)) = x; rw [a.de, b.de, c.de]
def cT4 {α β γ δ : Type} (a : Cst α) (b : Cst β) (c : Cst γ) (e : Cst δ) : Cst (α × β × γ × δ) where
  enc := encT4 a.enc b.enc c.enc e.enc
  dec := fun d => match d with | .tuple [x, y, z, w] => (a.dec x, b.dec y, c.dec z, e.dec w) | _ => (a.dec .none, b.dec .none, c.dec .none, e.dec .none)
  ok := fun d => match d with | .tuple [x, y, z, w] => a.ok x && b.ok y && c.ok z && e.ok w | _ => false
  h := fun d h => by
    split at h
    · next x y z w =>
      simp only [Bool.and_eq_true] at h
      show PyData.tuple [a.enc (a.dec x), b.enc (b.dec y), c.enc (c.dec z), e.enc (e.dec w)] = _
      rw [a.h x h.1.1.1, b.h y h.1.1.2, c.h z h.1.2, e.h w h.2]
    · cases h
  oke := fun x => by show (a.ok (a.enc x.1) && b.ok (b.enc x.2.1) && c.ok (c.enc x.2.2.1) && e.ok (e.enc x.2.2.2)) = true; rw [a.oke, b.oke, c.oke, e.oke]; rfl
  de := fun x => by show (a.dec (a.enc x.1), b.dec (b.enc x.2.1), c.dec (c.enc x.2.2.1), e.dec (e.enc x.2.2.2)) = x; rw [a.de, b.de, c.de, e.de]
section
variable {H : Hp} {v : V} {d : PyData}
theorem rp_dcast {α : Type} (c : Cst α) (g : c.ok d = true) (r : Rp H v d) : Rp H v (c.enc (c.dec d)) := by rw [c.h d g]; exact r
def dNone : PyData → Bool
  | .none => true
  | _ => false
def dSeq : PyData → Bool
  | .list _ => true
  | .tuple _ => true
  | _ => false
def dTup : PyData → Bool
  | .tuple _ => true
  | _ => false
def dLst : PyData → Bool
  | .list _ => true
  | _ => false
def dInt : PyData → Bool
  | .int _ => true
  | .bool _ => true
  | _ => false
def dBool : PyData → Bool
  | .bool _ => true
  | _ => false
def dGet : PyData → Nat → PyData
  | .tuple xs, k => xs.getD k .none
  | .list xs, k => xs.getD k .none
  | _, _ => .none
def dHasT : PyData → Nat → Bool
  | .tuple xs, k => decide (k < xs.length)
  | _, _ => false
theorem rp_ref (g : dSeq d = true) (r : Rp H v d) : ∃ a, v = .ref a := by
  cases r <;> first | exact ⟨_, rfl⟩ | cases g
theorem rp_dget {k : Nat} (g : dHasT d k = true) (r : Rp H v d) : ∃ a vs u, v = .ref a ∧ H a = some (.tup vs) ∧ atI vs (k : Int) = some u ∧ Rp H u (dGet d k) := by
  cases r with
  | tup h rs =>
    rename_i ds
    have hk : k < ds.length := of_decide_eq_true g
    obtain ⟨u, h1, h2⟩ := RpAll.at' (i := k) (d := ds[k]) rs (List.getElem?_eq_getElem hk)
    refine ⟨_, _, u, rfl, h, ?_, ?_⟩
    · exact atI_nat h1
    · show Rp H u (ds.getD k .none)
      rw [List.getD_eq_getElem?_getD, List.getElem?_eq_getElem hk]
      exact h2
  | _ => cases g
theorem rp_non {x : Unit} (r : Rp H v (encN x)) : v = .non := by unfold encN at r; cases r; rfl
theorem rp_tup1 {α : Type} {f : α → PyData} {x : α} (r : Rp H v (encT1 f x)) : ∃ a v1, v = .ref a ∧ H a = some (.tup [v1]) ∧ Rp H v1 (f x) := by
  unfold encT1 at r
  cases r with
  | tup h1 h2 =>
    cases h2 with
    | cons r1 t => cases t; exact ⟨_, _, rfl, h1, r1⟩
theorem rp_mk1 {α : Type} {f : α → PyData} {a : Addr} {v1 : V} {x : α} (h1 : H a = some (.tup [v1])) (r1 : Rp H v1 (f x)) : Rp H (.ref a) (encT1 f x) := .tup h1 (.cons r1 .nil)
theorem rp_none_iff (r : Rp H v d) : decide (v = V.non) = dNone d := by
  cases r <;> simp [dNone]
end
section
variable {X : Cx}
def rIsND : R2 := fun x y H Q => ∃ d, y = .non ∧ Rp H x d ∧ Q (.bl (dNone d)) H
def rNotND : R2 := fun x y H Q => ∃ d, y = .non ∧ Rp H x d ∧ Q (.bl (!dNone d)) H
theorem op_isND : OpR X (compareOp .Is) rIsND := by
  intro pins s σ H x y v u Q I rx ry h
  obtain ⟨d, e, r, q⟩ := h
  exact op_isN pins s σ H x y v u Q I rx ry ⟨e, by rw [rp_none_iff r]; exact q⟩
theorem op_notND : OpR X (compareOp .IsNot) rNotND := by
  intro pins s σ H x y v u Q I rx ry h
  obtain ⟨d, e, r, q⟩ := h
  exact op_notN pins s σ H x y v u Q I rx ry ⟨e, by rw [rp_none_iff r]; exact q⟩
def rEqD : R2 := fun x y H Q => ∃ a b : PyData, Rp H x a ∧ Rp H y b ∧ (SeqAt.shaped a = true ∧ SeqAt.shaped b = true) ∧ Q (.bl (PyData.eqv a b)) H
def rNeD : R2 := fun x y H Q => ∃ a b : PyData, Rp H x a ∧ Rp H y b ∧ (SeqAt.shaped a = true ∧ SeqAt.shaped b = true) ∧ Q (.bl (!PyData.eqv a b)) H
theorem op_eqDD (hu : X.A.units + 64 < cLine) : OpR X (compareOp .Eq) rEqD := by
  intro pins s σ H x y v u Q I rx ry h
  obtain ⟨a, b, h1, h2, ⟨s1, s2⟩, q⟩ := h
  exact op_eqD hu pins s σ H _ _ v u Q I rx ry ⟨_, _, h1.dp, h2.dp, s1, s2, q⟩
theorem op_neDD (hu : X.A.units + 64 < cLine) : OpR X (compareOp .NotEq) rNeD := by
  intro pins s σ H x y v u Q I rx ry h
  obtain ⟨a, b, h1, h2, ⟨s1, s2⟩, q⟩ := h
  exact op_neD hu pins s σ H _ _ v u Q I rx ry ⟨_, _, h1.dp, h2.dp, s1, s2, q⟩
def dTy : PyData → String
  | .none => "NoneType"
  | .bool _ => "bool"
  | .int _ => "int"
  | .str _ => "str"
  | .list _ => "list"
  | .tuple _ => "tuple"
  | .dict _ => "dict"
theorem Rp.tyX {K : PySem.W.Frag} {H : Hp} {v : V} {d : PyData} (r : Rp H v d) : TyX K H v (.type (dTy d)) := by
  cases r with
  | non => exact .base .non
  | bl b => exact .base (.bl b)
  | int i => exact .base (.int i)
  | str x => exact .base (.str x)
  | lst h _ => exact .base (.lst h)
  | tup h _ => exact .base (.tup h)
def rIsiD (T : String) (f : PyData → Bool) : List V → Hp → VK → Prop := fun xs H Q => ∃ (x : V) (d : PyData), xs = [x, .ty T] ∧ Rp H x d ∧ Q (.bl (f d)) H
theorem call_isiD {T : String} {f : PyData → Bool} (hT : ∀ d, kitB (dTy d) T = some (f d)) : CallR X (.builtin "isinstance") (rIsiD T f) := by
  intro pins s σ H xs us Q I r h
  obtain ⟨x, d, rfl, rx, q⟩ := h
  exact call_isi pins s σ H _ us Q I r ⟨x, .ty T, _, _, _, rfl, .ty T, rx.tyX, kit_ty (hT d), q⟩
theorem kit_dTup (d : PyData) : kitB (dTy d) "tuple" = some (dTup d) := by
  cases d with
  | none => exact (by decide +kernel : kitB "NoneType" "tuple" = some false)
  | bool _ => exact (by decide +kernel : kitB "bool" "tuple" = some false)
  | int _ => exact (by decide +kernel : kitB "int" "tuple" = some false)
  | str _ => exact (by decide +kernel : kitB "str" "tuple" = some false)
  | list _ => exact (by decide +kernel : kitB "list" "tuple" = some false)
  | tuple _ => exact (by decide +kernel : kitB "tuple" "tuple" = some true)
  | dict _ => exact (by decide +kernel : kitB "dict" "tuple" = some false)
theorem kit_dLst (d : PyData) : kitB (dTy d) "list" = some (dLst d) := by
  cases d with
  | none => exact (by decide +kernel : kitB "NoneType" "list" = some false)
  | bool _ => exact (by decide +kernel : kitB "bool" "list" = some false)
  | int _ => exact (by decide +kernel : kitB "int" "list" = some false)
  | str _ => exact (by decide +kernel : kitB "str" "list" = some false)
  | list _ => exact (by decide +kernel : kitB "list" "list" = some true)
  | tuple _ => exact (by decide +kernel : kitB "tuple" "list" = some false)
  | dict _ => exact (by decide +kernel : kitB "dict" "list" = some false)
theorem kit_dInt (d : PyData) : kitB (dTy d) "int" = some (dInt d) := by
  cases d with
  | none => exact (by decide +kernel : kitB "NoneType" "int" = some false)
  | bool _ => exact (by decide +kernel : kitB "bool" "int" = some true)
  | int _ => exact (by decide +kernel : kitB "int" "int" = some true)
  | str _ => exact (by decide +kernel : kitB "str" "int" = some false)
  | list _ => exact (by decide +kernel : kitB "list" "int" = some false)
  | tuple _ => exact (by decide +kernel : kitB "tuple" "int" = some false)
  | dict _ => exact (by decide +kernel : kitB "dict" "int" = some false)
theorem kit_dBool (d : PyData) : kitB (dTy d) "bool" = some (dBool d) := by
  cases d with
  | none => exact (by decide +kernel : kitB "NoneType" "bool" = some false)
  | bool _ => exact (by decide +kernel : kitB "bool" "bool" = some true)
  | int _ => exact (by decide +kernel : kitB "int" "bool" = some false)
  | str _ => exact (by decide +kernel : kitB "str" "bool" = some false)
  | list _ => exact (by decide +kernel : kitB "list" "bool" = some false)
  | tuple _ => exact (by decide +kernel : kitB "tuple" "bool" = some false)
  | dict _ => exact (by decide +kernel : kitB "dict" "bool" = some false)
end
/-! ### written dicts of numbers with text keys -/
inductive ES (P : Params) : List (Str × Int) → List DictEntry → Prop
  | nil : ES P [] []
  | cons {h k v} {t u : Tok} {r : List (Str × Int)} {es : List DictEntry} (e : h = PyData.keyHash P k) (x : ES P r es) : ES P ((k, v) :: r) (⟨h, .str k t, .int v u⟩ :: es)
def lookS : List (Str × Int) → Str → Option Int
  | [], _ => none
  | (k, v) :: r, i => if k = i then some v else lookS r i
def KDS (K : PySem.W.Frag) (w : World) (a : Addr) (kvs : List (Str × Int)) : Prop :=
  ∃ es n, K.lookup a = some ⟨.type "dict", none, .dict es n, #[]⟩ ∧ ES w.params kvs es.toList
theorem ES.lit {P : Params} : ∀ {kvs : List (Str × Int)} {es : List DictEntry}, ES P kvs es → PySem.W.KeysLit P es
  | _, _, .nil => trivial
  | _, _, .cons e x => ⟨⟨_, _, rfl, e⟩, ES.lit x⟩
theorem ES.find {P : Params} {i : Str} {v : Int} : ∀ {kvs : List (Str × Int)} {es : List DictEntry}, ES P kvs es → lookS kvs i = some v → ∃ e u, es.find? (fun e => e.key.isStr i) = some e ∧ e.val = .int v u
  | _, _, .nil, h => by cases h
  | _, _, .cons (k := k) (u := u) e x, h => by
    unfold lookS at h
    by_cases q : k = i
    · rw [if_pos q] at h
      subst q
      cases h
      refine ⟨_, u, List.find?_cons_of_pos ?_, rfl⟩
      simp [Value.isStr]
    · rw [if_neg q] at h
      obtain ⟨e', u', h1, h2⟩ := ES.find x h
      refine ⟨e', u', ?_, h2⟩
      rw [List.find?_cons_of_neg]
      · exact h1
      · simp [Value.isStr, q]
theorem KDS.at {K : PySem.W.Frag} {w : World} {a : Addr} {kvs : List (Str × Int)} {z : Str} {v : Int} (D : KDS K w a kvs) (h : lookS kvs z = some v) : KDct K w a z (.int v) := by
  obtain ⟨es, n, hl, x⟩ := D
  obtain ⟨e, u, h1, h2⟩ := x.find h
  refine ⟨es, n, .int v u, hl, x.lit, ?_, ⟨u, rfl⟩⟩
  unfold PySem.W.nsIn
  rw [hl]
  show (match es.toList.find? (fun e => e.key.isStr z) with
      | some e => some (some e.val)
      | none => if es.toList.any (·.refKey) then none else some none) = _
  rw [h1]
  show some (some e.val) = _
  rw [h2]
def rIxDS (K : PySem.W.Frag) (w : World) : R2 := fun x y H Q => ∃ (p : Addr) (z : Str) (kvs : List (Str × Int)) (v : Int), x = .ref p ∧ y = .str z ∧ KDS K w p kvs ∧ lookS kvs z = some v ∧ Q (.int v) H
theorem ix_DS {X : Cx} {K : PySem.W.Frag} {w : World} (hK : X.K = K := by rfl) (hw : X.w = w := by rfl) : IxR X (rIxDS K w) := by
  subst hK hw
  intro value slice pins s σ H x y v u Q I rx ry h hs
  obtain ⟨p, z, kvs, r, e1, e2, D, e, q⟩ := h
  exact ix_kdict value slice pins s σ H x y v u Q I rx ry ⟨p, z, .int r, e1, e2, D.at e, q⟩ hs
def dictS (kvs : List (Str × Int)) (i : Str) : Int := (lookS kvs i).getD 0
def hasS (kvs : List (Str × Int)) (i : Str) : Bool := (lookS kvs i).isSome
theorem lookS_at {kvs : List (Str × Int)} {i : Str} (h : hasS kvs i = true) : lookS kvs i = some (dictS kvs i) := by
  unfold hasS at h
  unfold dictS
  cases e : lookS kvs i with
  | none => rw [e] at h; cases h
  | some v => rfl
/-! ### for the mathematics -/
theorem eqv_enc {α : Type} [DecidableEq α] {n : Nat} {f : α → PyData} (ok : EncOk n f) (x y : α) : PyData.eqv (f x) (f y) = decide (x = y) := ok.eqv x y
end Vx
namespace Vx
open PySem PySem.Spec PyProof.Rows L2
theorem sm_str {x : Str} (h : (reprText x).length ≤ 20) : Sm 1 0 (.str x) := ⟨by simp only [smallD, decide_eq_true_eq]; exact h, by simp [nodes], by simp [PyData.depth]⟩
theorem sm_none : Sm 1 0 (encN ()) := sm_non
theorem sm_T1 {α : Type} {f : α → PyData} {n k : Nat} {p : α} (h1 : Sm n k (f p)) : Sm (1 + n) (k + 1) (encT1 f p) := by
  obtain ⟨a1, a2, a3⟩ := h1
  refine ⟨by simp [encT1, smallD, smallAll, a1], ?_, ?_⟩
  · simp only [encT1, nodes, nodesAll]
    omega
  · simp only [encT1, PyData.depth, PyData.depthAll]
    omega
theorem sm_T4 {α β γ δ : Type} {f : α → PyData} {g : β → PyData} {h : γ → PyData} {e : δ → PyData} {n k m j l i o q : Nat} {p : α × β × γ × δ} (h1 : Sm n k (f p.1)) (h2 : Sm m j (g p.2.1)) (h3 : Sm l i (h p.2.2.1)) (h4 : Sm o q (e p.2.2.2)) : Sm (1 + n + m + l + o) (max k (max j (max i q)) + 1) (encT4 f g h e p) := by
  obtain ⟨a1, a2, a3⟩ := h1
  obtain ⟨b1, b2, b3⟩ := h2
  obtain ⟨c1, c2, c3⟩ := h3
  obtain ⟨d1, d2, d3⟩ := h4
  refine ⟨by simp [encT4, smallD, smallAll, a1, b1, c1, d1], ?_, ?_⟩
  · simp only [encT4, nodes, nodesAll]
    omega
  · simp only [encT4, PyData.depth, PyData.depthAll]
    omega
theorem Sm.enc {n k : Nat} {d : PyData} (h : Sm n k d) : Sm n k (encD d) := h
end Vx
namespace Vx
theorem len8 {α : Type} {l : List α} (h : l.length = 8) : ∃ x0 x1 x2 x3 x4 x5 x6 x7, l = [x0, x1, x2, x3, x4, x5, x6, x7] := by
  obtain ⟨x0, r, rfl, h2⟩ := len_s h
  obtain ⟨x1, x2, x3, x4, x5, x6, x7, rfl⟩ := len7 h2
  exact ⟨x0, x1, x2, x3, x4, x5, x6, x7, rfl⟩
theorem len9 {α : Type} {l : List α} (h : l.length = 9) : ∃ x0 x1 x2 x3 x4 x5 x6 x7 x8, l = [x0, x1, x2, x3, x4, x5, x6, x7, x8] := by
  obtain ⟨x0, r, rfl, h2⟩ := len_s h
  obtain ⟨x1, x2, x3, x4, x5, x6, x7, x8, rfl⟩ := len8 h2
  exact ⟨x0, x1, x2, x3, x4, x5, x6, x7, x8, rfl⟩
theorem len10 {α : Type} {l : List α} (h : l.length = 10) : ∃ x0 x1 x2 x3 x4 x5 x6 x7 x8 x9, l = [x0, x1, x2, x3, x4, x5, x6, x7, x8, x9] := by
  obtain ⟨x0, r, rfl, h2⟩ := len_s h
  obtain ⟨x1, x2, x3, x4, x5, x6, x7, x8, x9, rfl⟩ := len9 h2
  exact ⟨x0, x1, x2, x3, x4, x5, x6, x7, x8, x9, rfl⟩
theorem len11 {α : Type} {l : List α} (h : l.length = 11) : ∃ x0 x1 x2 x3 x4 x5 x6 x7 x8 x9 x10, l = [x0, x1, x2, x3, x4, x5, x6, x7, x8, x9, x10] := by
  obtain ⟨x0, r, rfl, h2⟩ := len_s h
  obtain ⟨x1, x2, x3, x4, x5, x6, x7, x8, x9, x10, rfl⟩ := len10 h2
  exact ⟨x0, x1, x2, x3, x4, x5, x6, x7, x8, x9, x10, rfl⟩
theorem len12 {α : Type} {l : List α} (h : l.length = 12) : ∃ x0 x1 x2 x3 x4 x5 x6 x7 x8 x9 x10 x11, l = [x0, x1, x2, x3, x4, x5, x6, x7, x8, x9, x10, x11] := by
  obtain ⟨x0, r, rfl, h2⟩ := len_s h
  obtain ⟨x1, x2, x3, x4, x5, x6, x7, x8, x9, x10, x11, rfl⟩ := len11 h2
  exact ⟨x0, x1, x2, x3, x4, x5, x6, x7, x8, x9, x10, x11, rfl⟩
end Vx
namespace Vx
open PySem PySem.Spec PyProof.Rows L2
theorem Sep.mutnews {M : List Addr} {H0 G0 G H H' : Hp} {O : List Addr} (S : Sep M H0 G0 G H O) {L : List Addr} (x : SameXs L H H') (hL : ∀ a ∈ L, a ∈ O) (hs : ∀ a ∈ L, H' a ≠ none) (N : List Addr) (hN : ∀ a ∈ N, H a = none ∧ H' a ≠ none ∧ H0 a = none) : Sep M H0 G0 G H' (N ++ O) := by
  have S1 := S.mut x hL hs
  refine ⟨S1.base, S1.pm, S1.sG, S1.g0, S1.gn, fun a ha => ?_⟩
  rcases List.mem_append.mp ha with z | z
  · obtain ⟨h1, h2, h3⟩ := hN a z
    exact ⟨S.gfree h1, h2, .inr h3⟩
  · exact S1.ow a z
end Vx
/-! # sorted(set(xs)), xs a list of numbers -/
namespace Vs
open PySem PySem.Spec PyProof.Rows L2
section
variable {prog : Program} {wo : World} {Ar : Around} {Er : Value → Shared → Prop} {st : Shared}
/-- the object that set.__new__ lays -/
abbrev bare (wo : World) : Obj := { cls := .type "set", dict := none, data := .set #[] 0 (.fresh 0 0 (!wo.params.followText "set-order")) }
theorem get_bare (h : Heap) : (h.push (bare wo)).get? h.objs.size = some (bare wo) := Heap.get?_push_size _ rfl
/-- set.__init__ of a new, empty set over a list of numbers -/
theorem init_list {lst : Addr} {arr : Array Value} {ks : List Int} (calm : Ar.handled = none) (isl : st.heap.IsList lst arr) (hin : IntsAre arr.toList ks) (few : ks.length + 1 < scanBound)
    (R : Result → Shared → Prop)
    (fin : ∀ (g : Heap) (tk c : Nat), SetR wo g st.heap.objs.size (fun j => decide (j ∈ ks)) c → c ≤ ks.length → (∀ b o, st.heap.get? b = some o → g.get? b = some o) → R (.ok (.ret .none)) { st with heap := g, toks := tk }) :
    codeAny (model prog wo) Ar (.call (.builtin "set.__init__") ⟨[.ref st.heap.objs.size, .ref lst], []⟩) R { st with heap := st.heap.push (bare wo) } := by
  have typ : Shared.TypeIs { st with heap := st.heap.push (bare wo) } (.ref st.heap.objs.size) "set" := ⟨_, get_bare _, rfl⟩
  have len : arr.size = ks.length := by
    have z := hin.length
    rwa [Array.length_toList] at z
  refine codeAny_call_builtin F.called_set.init.plain F.entry_set_init (check_set_init_1 typ ?_)
  obtain ⟨⟨k1, k2, k3, k4⟩, ho, e1, m, e2⟩ := isl
  simp only at e1 e2
  subst e1 e2
  have below : lst < st.heap.objs.size := Heap.lt_size ho
  have il : (st.heap.push (bare wo)).IsList lst arr := ⟨_, Heap.get?_push_of_some _ ho, rfl, m, rfl⟩
  have a1 := F.sub_list_set
  have a2 := F.sub_list_frozenset
  have a3 : (Value.type "list" == Value.type "dict") = false := by decide
  have a4 := Heap.get?_push_of_some (bare wo) ho
  unfold Builtin.«set.__init__» noKeywords Builtin.Frozenset.updateFrom
  generalize hw : pyIter = WK
  wp_walk
  subst hw
  refine wpAny_pyIter_list il (wpAny_bind (wpAny_runValue ?_))
  have sz : (st.heap.push (bare wo)).objs.size = st.heap.objs.size + 1 := Heap.size_push ..
  have c3 : Ar.in1.in1.handled = none := by simp [calm]
  have far : lst ≠ (st.heap.push (bare wo)).objs.size := by rw [sz]; exact Nat.ne_of_lt (Nat.lt_succ_of_lt below)
  have out : st.heap.objs.size ∉ [(st.heap.push (bare wo)).objs.size, lst] := by
    intro z
    rcases List.mem_cons.mp z with z | z
    · rw [sz] at z; exact absurd z (Nat.ne_of_lt (Nat.lt_succ_self _))
    · exact absurd (List.mem_singleton.mp z) (Nat.ne_of_gt below)
  refine set_update_ints ((Walks.list c3 _ lst far arr).toS) st.heap.objs.size out ks len few (fun i v hv => ?_) (arr.size - 0) 0 _ (by omega) (Nat.zero_le _) ?_ ?_ ?_
  · have hi : i < ks.length := by rw [← len]; exact (Array.getElem?_eq_some_iff.mp hv).1
    obtain ⟨t, e⟩ := PyProof.Rows.IntsAre.int_at hin i v (by rw [Array.getElem?_toList]; exact hv)
    refine ⟨ks[i], t, List.getElem?_eq_getElem hi, ?_⟩
    rw [e, List.getD_eq_getElem?_getD, List.getElem?_eq_getElem hi] <;> rfl
  · exact ⟨⟨_, Heap.get?_push_size _ rfl, rfl, rfl⟩, il.push _⟩
  · exact ⟨0, Nat.le_refl 0, setR_new_at (Heap.get?_push_of_some _ (get_bare _))⟩
  · rintro ⟨g, q1, q2, q3, q4⟩ c mv hc hs
    have b1 : q1 = st.gens := mv.gens
    have b2 : q2 = st.drawn := mv.drawn
    have b3 : q4 = st.os := mv.os
    subst b1 b2 b3
    refine wpAny_pure ?_
    refine wpAny_pure ?_
    rw [len] at hc
    refine fin g q3 c hs hc fun b o e => ?_
    have hb : b < st.heap.objs.size := Heap.lt_size e
    refine mv.heap b o (fun z => ?_) (Heap.get?_push_of_some _ (Heap.get?_push_of_some _ e))
    rcases List.mem_cons.mp z with z | z
    · exact absurd z (Nat.ne_of_lt hb)
    · have z := List.mem_singleton.mp z
      rw [sz] at z
      exact absurd z (Nat.ne_of_lt (Nat.lt_succ_of_lt hb))
end
end Vs
namespace Vs
open PySem PySem.Spec PyProof.Rows L2
section
variable {prog : Program} {wo : World} {Ar : Around} {Er : Value → Shared → Prop} {st : Shared}
/-- set(xs): a new set of the numbers of a list -/
theorem make_list {lst : Addr} {arr : Array Value} {ks : List Int} {Q : Value → Shared → Prop} (calm : Ar.handled = none) (isl : st.heap.IsList lst arr) (hin : IntsAre arr.toList ks) (few : ks.length + 1 < scanBound)
    (fin : ∀ (g : Heap) (tk c : Nat), SetR wo g st.heap.objs.size (fun j => decide (j ∈ ks)) c → c ≤ ks.length → (∀ b o, st.heap.get? b = some o → g.get? b = some o) → Q (.ref st.heap.objs.size) { st with heap := g, toks := tk }) :
    wpAny (model prog wo) Ar (call (.type "set") [.ref lst]) Q Er st := by
  obtain ⟨cc, tl, hmro⟩ := F.called_set.mro
  have m1 := F.called_set.made
  have m2 := F.called_set.sub
  have m3 := F.called_set.notType
  have m4 := F.called_set.canCreate
  have m5 := F.typeCall_set_1 (.ref lst)
  refine wpAny_call (codeAny_of_tree ?_)
  show wpAny _ _ (callAny (.type "set") _) _ _ _
  refine wpAny_pure ⟨Code.quiet_builtin _ (by decide +kernel), codeAny_builtin F.entry_type_call ?_⟩
  rw [Around.under_plain (weight_type_call_type "set" [.ref lst] []) rfl]
  repeat (any_goals (first | assumption | wp_step))
  refine codeAny_mono (code_set_led1 (.ref lst) (E := Er) (Q₁ := fun obj z => obj = .ref st.heap.objs.size ∧ z = { st with heap := st.heap.push (bare wo) }) ⟨rfl, rfl⟩) fun r z hr => ?_
  match r, hr with
  | .error e, hr => exact hr
  | .ok (.ret obj), hr =>
    obtain ⟨rfl, rfl⟩ := hr
    have m6 := F.called_set.init.lookup
    have m7 := F.called_set.init.bind (.ref st.heap.objs.size)
    have typ : Shared.TypeIs { st with heap := st.heap.push (bare wo) } (.ref st.heap.objs.size) "set" := ⟨_, get_bare _, rfl⟩
    repeat (any_goals (first | assumption | wp_step))
    refine codeAny_mono (init_list (R := wants (fun r z => r = .none ∧ ∃ g tk c, z = { st with heap := g, toks := tk } ∧ SetR wo g st.heap.objs.size (fun j => decide (j ∈ ks)) c ∧ c ≤ ks.length ∧ ∀ b o, st.heap.get? b = some o → g.get? b = some o) Er)
      (by simp [calm]) isl hin few fun g tk c a b k => ⟨rfl, g, tk, c, rfl, a, b, k⟩) fun r z hr => ?_
    match r, hr with
    | .error e, hr => exact hr
    | .ok (.ret v), hr =>
      obtain ⟨rfl, g, tk, c, rfl, a, b, k⟩ := hr
      repeat (any_goals (first | assumption | wp_step))
      exact fin _ _ _ a b k
end
section
variable {X : Cx}
/-- set(xs) -/
def rSetI (w : World) : List V → Hp → VK → Prop := fun xs H Q => ∃ (l : Addr) (ks : List Int), xs = [V.ref l] ∧ (∃ K, SqL K H l (ks.map V.int)) ∧ ks.length ≤ 50 ∧
  ∀ (p : Addr) (n : Nat), n ≤ ks.length → H p = none → Q (.ref p) (upd H p (SetO w p (fun j => decide (j ∈ ks)) n))
end
end Vs
namespace Vx
open PySem PySem.Spec PyProof.Rows L2
section
variable {X : Cx}
def rSetI (K : PySem.W.Frag) (w : World) : List V → Hp → VK → Prop := fun xs H Q => ∃ (l : Addr) (ks : List Int), xs = [V.ref l] ∧ SqL K H l (ks.map V.int) ∧ ks.length ≤ 50 ∧
  ∀ (p : Addr) (n : Nat), n ≤ ks.length → H p = none → Q (.ref p) (upd H p (SetO w p (fun j => decide (j ∈ ks)) n))
theorem cr_setI {K : PySem.W.Frag} {w : World} (hc : X.calm = true) (hK : X.K = K := by rfl) (hw : X.w = w := by rfl) : CallR X (.type "set") (rSetI K w) := by
  subst hK hw
  intro pins s σ H xs us Q I r h
  obtain ⟨l, ks, rfl, hl, hf, q⟩ := h
  rw [Vals.ref1 r]
  obtain ⟨its, rv, pl, hz⟩ := I.list hl
  have hb : scanBound = 4096 := rfl
  refine Vs.make_list (I.ok.hd hc) pl.isList (by simpa using ints_of_vals rv) (by omega) fun g tk c R hcn k => ?_
  exact ⟨.ref _, upd H _ (SetO X.w _ (fun j => decide (j ∈ ks)) c), I.laid (t' := tk) k (Nat.le_refl _) (setO_new R), rfl, q _ c hcn (I.hok.fresh (Nat.le_refl _))⟩
def rSortSet (w : World) : List V → Hp → VK → Prop := fun vs H Q => ∃ (a : Addr) (ks : List Int) (n : Nat), vs = [V.ref a] ∧ H a = some (SetO w a (fun j => decide (j ∈ ks)) n) ∧ n ≤ 50 ∧
  ∀ (ns : List Int) (p : Addr), ns.Pairwise (· < ·) → (∀ k : Int, k ∈ ns ↔ k ∈ ks) → H p = none → Q (.ref p) (upd H p (.lst (ns.map V.int)))
theorem cr_sortSet {w : World} (hc : X.calm = true) (hw : X.w = w := by rfl) : CallR X (.builtin "sorted") (rSortSet w) := by
  subst hw
  intro pins s σ H vs us Q I r h
  obtain ⟨a, ks, n, rfl, ha, h64, q⟩ := h
  exact cr_sortedSet hc pins s σ H _ us Q I r ⟨a, _, n, rfl, ha, by omega, fun ns p pw hm hl hn => q ns p pw (fun k => (hm k).trans decide_eq_true_iff) hn⟩
end
/-! ### numbers in order, each once -/
def insS (x : Int) : List Int → List Int
  | [] => [x]
  | y :: r => if x < y then x :: y :: r else if x = y then y :: r else y :: insS x r
def sortSet (xs : List Int) : List Int := xs.foldr insS []
theorem insS_mem {x k : Int} : ∀ {l : List Int}, k ∈ insS x l ↔ k = x ∨ k ∈ l
  | [] => by simp [insS]
  | y :: r => by
    unfold insS
    split
    · simp
    · split
      · next h => subst h; simp
      · rw [List.mem_cons, insS_mem (l := r), List.mem_cons]
        constructor <;> (intro h; rcases h with h | h | h <;> simp [h])
theorem insS_pw {x : Int} : ∀ {l : List Int}, l.Pairwise (· < ·) → (insS x l).Pairwise (· < ·)
  | [], _ => by simp [insS]
  | y :: r, h => by
    have hy := List.pairwise_cons.mp h
    unfold insS
    split
    · next c =>
      refine List.pairwise_cons.mpr ⟨fun z hz => ?_, h⟩
      rcases List.mem_cons.mp hz with rfl | hz
      · exact c
      · exact Int.lt_trans c (hy.1 z hz)
    · next c =>
      split
      · exact h
      · refine List.pairwise_cons.mpr ⟨fun z hz => ?_, insS_pw hy.2⟩
        rcases insS_mem.mp hz with rfl | hz
        · omega
        · exact hy.1 z hz
theorem sortSet_mem {k : Int} : ∀ {l : List Int}, k ∈ sortSet l ↔ k ∈ l
  | [] => Iff.rfl
  | y :: r => by
    show k ∈ insS y (sortSet r) ↔ _
    rw [insS_mem, sortSet_mem (l := r), List.mem_cons]
theorem sortSet_pw : ∀ l : List Int, (sortSet l).Pairwise (· < ·)
  | [] => List.Pairwise.nil
  | y :: r => insS_pw (sortSet_pw r)
theorem pw_uniq : ∀ {a b : List Int}, a.Pairwise (· < ·) → b.Pairwise (· < ·) → (∀ k : Int, k ∈ a ↔ k ∈ b) → a = b
  | [], [], _, _, _ => rfl
  | [], y :: r, _, _, h => absurd ((h y).mpr List.mem_cons_self) (by simp)
  | x :: r, [], _, _, h => absurd ((h x).mp List.mem_cons_self) (by simp)
  | x :: r, y :: t, p, q, h => by
    have p := List.pairwise_cons.mp p
    have q := List.pairwise_cons.mp q
    have e : x = y := by
      rcases List.mem_cons.mp ((h x).mp List.mem_cons_self) with e | e
      · exact e
      · rcases List.mem_cons.mp ((h y).mpr List.mem_cons_self) with e2 | e2
        · exact e2.symm
        · have := q.1 x e
          have := p.1 y e2
          omega
    subst e
    rw [pw_uniq p.2 q.2 fun k => ?_]
    have hk := h k
    rw [List.mem_cons, List.mem_cons] at hk
    constructor
    · intro z
      rcases hk.mp (.inr z) with e | e
      · have := p.1 k z; omega
      · exact e
    · intro z
      rcases hk.mpr (.inr z) with e | e
      · have := q.1 k z; omega
      · exact e
theorem sortSet_of {ks ns : List Int} (p : ns.Pairwise (· < ·)) (h : ∀ k : Int, k ∈ ns ↔ k ∈ ks) : ns = sortSet ks := pw_uniq p (sortSet_pw ks) fun k => (h k).trans sortSet_mem.symm
theorem gen_new2 {H H' : Hp} {p q : Addr} {o u : HO} (n : H p = none) (m : upd H p o q = none) (h : upd (upd H p o) q u = H') : Same H H' ∧ H' q = some u ∧ H q = none := by
  have hne : q ≠ p := fun z => by rw [z, upd_same] at m; cases m
  have hq : H q = none := by rwa [upd_ne hne] at m
  subst h
  refine ⟨fun b x e => ?_, upd_same, hq⟩
  rw [upd_ne (fun z => by rw [z, hq] at e; cases e), upd_ne (fun z => by rw [z, n] at e; cases e)]
  exact e
/-! ### texts in tuples and lists -/
theorem map_getF {α : Type} {f : α → V} {xs : List α} {i : Nat} {x : V} (h : (xs.map f)[i]? = some x) : ∃ o, xs[i]? = some o ∧ x = f o := by
  rw [List.getElem?_map] at h
  cases e : xs[i]? with
  | none => rw [e] at h; cases h
  | some o => rw [e] at h; exact ⟨o, rfl, (Option.some.inj h).symm⟩
theorem inV_strs (x : Str) : ∀ xs : List Str, inV (V.str x) (xs.map V.str) = decide (x ∈ xs)
  | [] => by simp [inV]
  | y :: r => by
    have h := inV_strs x r
    unfold inV at h ⊢
    rw [List.map_cons, List.any_cons, h]
    by_cases c : x = y
    · subst c
      simp [eqV]
    · simp [eqV, c, Ne.symm c]
theorem flat_strs : ∀ xs : List Str, (xs.map V.str).all flatV = true
  | [] => rfl
  | _ :: r => flat_strs r
section
variable {X : Cx} {K : PySem.W.Frag}
def rInS (K : PySem.W.Frag) : R2 := fun x y H Q => ∃ (i : Str) (p : Addr) (xs : List Str), x = .str i ∧ y = .ref p ∧ (SqL K H p (xs.map V.str) ∨ SqT K H p (xs.map V.str)) ∧ Q (.bl (decide (i ∈ xs))) H
theorem op_inS (hK : X.K = K := by rfl) : OpR X (compareOp .In) (rInS K) := by
  subst hK
  intro pins s σ H x y v u Q I rx ry h
  obtain ⟨i, p, xs, e1, e2, hs, q⟩ := h
  refine op_in_seq pins s σ H _ _ v u Q I rx ry ⟨p, _, e2, hs, by rw [e1]; rfl, flat_strs xs, ?_⟩
  rw [if_neg Bool.false_ne_true, e1, inV_strs]
  exact q
/-- a list or a tuple of numbers -/
def SeqI (K : PySem.W.Frag) (H : Hp) (v : V) (xs : List Int) : Prop := ∃ a, v = .ref a ∧ (H a = some (.lst (xs.map V.int)) ∨ H a = some (.tup (xs.map V.int)) ∨ ∀ H, SqT K H a (xs.map V.int))
def rListSI (K : PySem.W.Frag) : List V → Hp → VK → Prop := fun xs H Q => ∃ (v : V) (ks : List Int), xs = [v] ∧ SeqI K H v ks ∧ ∀ l, H l = none → Q (.ref l) (upd H l (.lst (ks.map V.int)))
theorem call_listSI (hK : X.K = K := by rfl) : CallR X (.type "list") (rListSI K) := by
  subst hK
  intro pins s σ H xs us Q I r h
  obtain ⟨v, ks, rfl, ⟨a, rfl, h2⟩, q⟩ := h
  refine call_list_of pins s σ H _ us Q I r ⟨a, _, rfl, ?_, q⟩
  rcases h2 with z | z | z
  · exact .inl (SqL.of z)
  · exact .inr (SqT.of z)
  · exact .inr (z H)
theorem SeqI.mono {H H' : Hp} {v : V} {xs : List Int} (e : Same H H') (h : SeqI K H v xs) : SeqI K H' v xs := by
  obtain ⟨a, e1, h⟩ := h
  refine ⟨a, e1, ?_⟩
  rcases h with z | z | z
  · exact .inl (e _ _ z)
  · exact .inr (.inl (e _ _ z))
  · exact .inr (.inr z)
def rTupLK (K : PySem.W.Frag) : List V → Hp → VK → Prop := fun xs H Q => ∃ (p : Addr) (ks : List Int), xs = [.ref p] ∧ SqL K H p (ks.map V.int) ∧ ∀ l, H l = none → Q (.ref l) (upd H l (.tup (ks.map V.int)))
theorem call_tupLK (hK : X.K = K := by rfl) : CallR X (.type "tuple") (rTupLK K) := by
  subst hK
  intro pins s σ H xs us Q I r h
  obtain ⟨p, ks, rfl, hs, q⟩ := h
  exact call_tuple_of pins s σ H _ us Q I r ⟨p, _, rfl, .inl ⟨hs, q⟩⟩
end
/-! ### written dicts of tuples with text keys -/
def lookG {α : Type} : List (Str × α) → Str → Option α
  | [], _ => none
  | (k, v) :: r, i => if k = i then some v else lookG r i
def dictG {α : Type} [Inhabited α] (kvs : List (Str × α)) (i : Str) : α := (lookG kvs i).getD default
def hasG {α : Type} (kvs : List (Str × α)) (i : Str) : Bool := (lookG kvs i).isSome
theorem lookG_at {α : Type} [Inhabited α] {kvs : List (Str × α)} {i : Str} (h : hasG kvs i = true) : lookG kvs i = some (dictG kvs i) := by
  unfold hasG at h
  unfold dictG
  cases e : lookG kvs i with
  | none => rw [e] at h; cases h
  | some v => rfl
inductive EA (P : Params) : List (Str × Addr) → List DictEntry → Prop
  | nil : EA P [] []
  | cons {h k a} {t : Tok} {r : List (Str × Addr)} {es : List DictEntry} (e : h = PyData.keyHash P k) (x : EA P r es) : EA P ((k, a) :: r) (⟨h, .str k t, .ref a⟩ :: es)
def KDA (K : PySem.W.Frag) (w : World) (a : Addr) (kvs : List (Str × Addr)) : Prop :=
  ∃ es n, K.lookup a = some ⟨.type "dict", none, .dict es n, #[]⟩ ∧ EA w.params kvs es.toList
theorem EA.lit {P : Params} : ∀ {kvs : List (Str × Addr)} {es : List DictEntry}, EA P kvs es → PySem.W.KeysLit P es
  | _, _, .nil => trivial
  | _, _, .cons e x => ⟨⟨_, _, rfl, e⟩, EA.lit x⟩
theorem EA.find {P : Params} {i : Str} {a : Addr} : ∀ {kvs : List (Str × Addr)} {es : List DictEntry}, EA P kvs es → lookG kvs i = some a → ∃ e, es.find? (fun e => e.key.isStr i) = some e ∧ e.val = .ref a
  | _, _, .nil, h => by cases h
  | _, _, .cons (k := k) e x, h => by
    unfold lookG at h
    by_cases q : k = i
    · rw [if_pos q] at h
      subst q
      cases h
      refine ⟨_, List.find?_cons_of_pos ?_, rfl⟩
      simp [Value.isStr]
    · rw [if_neg q] at h
      obtain ⟨e', h1, h2⟩ := EA.find x h
      refine ⟨e', ?_, h2⟩
      rw [List.find?_cons_of_neg]
      · exact h1
      · simp [Value.isStr, q]
def rIxDA (K : PySem.W.Frag) (w : World) : R2 := fun x y H Q => ∃ (p : Addr) (z : Str) (kvs : List (Str × Addr)) (a : Addr), x = .ref p ∧ y = .str z ∧ KDA K w p kvs ∧ lookG kvs z = some a ∧ Q (.ref a) H
theorem ix_DA {X : Cx} {K : PySem.W.Frag} {w : World} (hK : X.K = K := by rfl) (hw : X.w = w := by rfl) : IxR X (rIxDA K w) := by
  subst hK hw
  intro value slice pins s σ H x y v u Q I rx ry h hs
  obtain ⟨p, z, kvs, a, e1, e2, ⟨es, n, hl, xx⟩, e, q⟩ := h
  obtain ⟨en, h1, h2⟩ := xx.find e
  refine ix_kdict value slice pins s σ H x y v u Q I rx ry ⟨p, z, .ref a, e1, e2, ⟨es, n, .ref a, hl, xx.lit, ?_, rfl⟩, q⟩ hs
  unfold PySem.W.nsIn
  rw [hl]
  show (match es.toList.find? (fun e => e.key.isStr z) with
      | some e => some (some e.val)
      | none => if es.toList.any (·.refKey) then none else some none) = _
  rw [h1]
  show some (some en.val) = _
  rw [h2]
theorem F2.look {α β : Type} [Inhabited α] [Inhabited β] {P : α → β → Prop} {z : Str} : ∀ {l : List (Str × α)} {m : List (Str × β)}, F2 (fun p q => p.1 = q.1 ∧ P p.2 q.2) l m → hasG m z = true → P (dictG l z) (dictG m z)
  | _, _, .nil, h => by cases h
  | (k, a) :: l, (k2, b) :: m, .cons h r, hz => by
    obtain ⟨e, hp⟩ := h
    have e : k = k2 := e
    subst e
    unfold hasG lookG at hz
    unfold dictG lookG
    by_cases q : k = z
    · rw [if_pos q, if_pos q]; exact hp
    · rw [if_neg q] at hz
      rw [if_neg q, if_neg q]
      exact F2.look r hz
theorem F2.hasK {α β : Type} {P : α → β → Prop} {z : Str} : ∀ {l : List (Str × α)} {m : List (Str × β)}, F2 (fun p q => p.1 = q.1 ∧ P p.2 q.2) l m → hasG m z = true → hasG l z = true
  | _, _, .nil, h => by cases h
  | (k, a) :: l, (k2, b) :: m, .cons h r, hz => by
    have e : k = k2 := h.1
    subst e
    unfold hasG lookG at hz ⊢
    by_cases q : k = z
    · rw [if_pos q]; rfl
    · rw [if_neg q] at hz ⊢
      exact F2.hasK r hz
end Vx
namespace Vx
open PySem PySem.Spec PyProof.Rows L2
theorem op_notFalse {X : Cx} : OpR X (compareOp .IsNot) (fun x y H Q => ∃ b : Bool, x = .bl b ∧ y = .bl false ∧ Q (.bl b) H) := by
  intro pins s σ H x y v u Q I rx ry h
  obtain ⟨b, rfl, rfl, q⟩ := h
  cases rx
  cases ry
  show wpAny (model X.prog X.w) X.A (compareOp .IsNot (.bool b) (.bool false)) (EP X pins σ Q) X.xe s
  have e : compareOp .IsNot (.bool b) (.bool false) = pure (.bool b) := by cases b <;> rfl
  rw [e]
  exact wpAny_pure ⟨.bl b, H, I, rfl, q⟩
end Vx
/-! ### comprehensions that change an object -/
namespace Vx
open PySem PySem.Spec PyProof.Rows L2
section
variable {α β σ γ : Type}
def bind2 (m : Rx (α × σ)) (f : α → σ → Rx γ) : Rx γ := m.bind fun v => f v.1 v.2
def mapAS : List α → List β → σ → (σ → α → Rx (β × σ)) → Rx (List β × σ)
  | [], acc, s, _ => .ok (acc, s)
  | x :: r, acc, s, f => grd (acc.length ≤ 1000000) ((f s x).bind fun y => mapAS r (acc ++ [y.1]) y.2 f)
def mapFS : List α → List β → σ → (σ → α → Rx (Option β × σ)) → Rx (List β × σ)
  | [], acc, s, _ => .ok (acc, s)
  | x :: r, acc, s, f => grd (acc.length ≤ 1000000) ((f s x).bind fun y =>
    match y.1 with
    | some z => mapFS r (acc ++ [z]) y.2 f
    | none => mapFS r acc y.2 f)
theorem cW_push2 {m : Rx (α × σ)} {f : α → σ → Rx γ} {K : γ → Prop} {E : Nat → Prop} (h : cW (bind2 m f) K E) : ∃ K2 : α × σ → Prop, (∀ a s, K2 (a, s) → cW (f a s) K E) ∧ cW m K2 E := ⟨fun v => cW (f v.1 v.2) K E, fun _ _ x => x, cW_call h (fun _ x => x) fun _ x => x⟩
theorem cW_mapAS {K : List β × σ → Prop} {E : Nat → Prop} {xs : List α} {acc : List β} {s : σ} {i : Nat} {x : α} {f : σ → α → Rx (β × σ)} (hx : xs[i]? = some x) (h : cW (mapAS (xs.drop i) acc s f) K E) :
    acc.length ≤ 1000000 ∧ cW (f s x) (fun y => cW (mapAS (xs.drop (i + 1)) (acc ++ [y.1]) y.2 f) K E) E := by
  rw [List.drop_eq_getElem?_toList_append, hx] at h
  obtain ⟨z, h⟩ := cW_grd h
  exact ⟨z, cW_call h (fun _ z => z) fun _ z => z⟩
theorem cW_mapAS0 {K : List β × σ → Prop} {E : Nat → Prop} {xs : List α} {acc : List β} {s : σ} {n : Nat} {f : σ → α → Rx (β × σ)} (hn : n = xs.length) (h : cW (mapAS (xs.drop n) acc s f) K E) : K (acc, s) := by
  subst hn
  rw [List.drop_length] at h
  exact cW_ok h
theorem cW_mapFS {K : List β × σ → Prop} {E : Nat → Prop} {xs : List α} {acc : List β} {s : σ} {i : Nat} {x : α} {f : σ → α → Rx (Option β × σ)} (hx : xs[i]? = some x) (h : cW (mapFS (xs.drop i) acc s f) K E) :
    acc.length ≤ 1000000 ∧ cW (f s x) (fun y => match y.1 with | some z => cW (mapFS (xs.drop (i + 1)) (acc ++ [z]) y.2 f) K E | none => cW (mapFS (xs.drop (i + 1)) acc y.2 f) K E) E := by
  rw [List.drop_eq_getElem?_toList_append, hx] at h
  obtain ⟨z, h⟩ := cW_grd h
  refine ⟨z, cW_call h (fun y z => ?_) fun _ z => z⟩
  obtain ⟨o, t⟩ := y
  cases o with
  | none => exact z
  | some w => exact z
theorem cW_mapFS0 {K : List β × σ → Prop} {E : Nat → Prop} {xs : List α} {acc : List β} {s : σ} {n : Nat} {f : σ → α → Rx (Option β × σ)} (hn : n = xs.length) (h : cW (mapFS (xs.drop n) acc s f) K E) : K (acc, s) := by
  subst hn
  rw [List.drop_length] at h
  exact cW_ok h
end
theorem sx_of {L : List Addr} {a b : Hp} (h : Same a b) : SameXs L a b := fun p o e _ => h p o e
theorem sx_same {L : List Addr} {a b c : Hp} (h : SameXs L a b) (k : Same b c) : SameXs L a c := fun p o e n => k p o (h p o e n)
theorem sx_mut {L : List Addr} {a b c : Hp} (h : SameXs L a b) (k : SameXs L b c) : SameXs L a c := fun p o e n => k p o (h p o e n) n
theorem sx_mut1 {L : List Addr} {a b c : Hp} {D : Addr} (h : SameXs L a b) (k : SameX D b c) (d : a D = none) : SameXs L a c := fun p o e n => k p o (h p o e n) (ne_of_none e d)
def rIndexTS (K : PySem.W.Frag) : V → List V → Hp → VK → Prop := fun x xs H Q => ∃ (p : Addr) (ys : List Str) (z : Str), x = .ref p ∧ xs = [.str z] ∧ SqT K H p (ys.map V.str) ∧ z ∈ ys ∧ Q (.int ((ys.idxOf z : Nat) : Int)) H
theorem mt_indexTS {X : Cx} {K : PySem.W.Frag} (hK : X.K = K := by rfl) : MtR X "tuple.index" (rIndexTS K) := by
  subst hK
  intro pins s σ H x xs v us Q I rx rxs h
  obtain ⟨p, ys, z, rfl, rfl, hs, hm, q⟩ := h
  refine mt_tup_index pins s σ H _ _ v us Q I rx rxs ⟨p, ys, z, ys.idxOf z, rfl, rfl, hs, ?_, ?_, q⟩
  · have hl := List.idxOf_lt_length_iff.mpr hm
    rw [List.getElem?_eq_getElem hl]
    exact congrArg some (List.getElem_idxOf hl)
  · intro m hm2 hg
    have h1 := (List.getElem?_eq_some_iff.mp hg)
    obtain ⟨h2, h3⟩ := h1
    have h4 := List.not_of_lt_findIdx hm2
    rw [h3, beq_self_eq_true] at h4
    cases h4
end Vx
/-! # try with several clauses that name the exception -/
namespace Ve
open PySem PySem.Spec PyProof.Rows L2
abbrev Suite := Addr → Value → Option Addr → TS
/-- what a list of clauses wishes: the first whose class fits, and its suite; none: the outer wish -/
def wCl (K : PySem.W.Frag) (Wout : WX) (D : Ends) : List (Value × Nat × Suite) → WX
  | [] => Wout
  | c :: r => wAs K c.1 c.2.1 c.2.2 (wCl K Wout D r) D
/-- one clause `except x as n: suite` -/
structure ClOk (X : Cx) (h : ExceptHandler) (c : Value × Nat × Suite) : Prop where
  ex : ∃ (x n : Str) (b₀ : Stmt) (suite : List Stmt) (np p : Pos), h = .ExceptHandler (some (.Name x np)) (some n) (b₀ :: suite) p ∧ Names X x c.1 ∧ X.N[c.2.1]? = some n ∧ X.env.kindOf n = some .local ∧
    ∀ (a : Addr) (oe : Obj) (cls : Value) (d : Option Addr) (pn : List (Addr × Obj)), Zc cls d oe → (∃ vs, oe.data = .fields vs) → PSs (X.suite a ((a, oe) :: pn)) (b₀ :: suite) (c.2.2 a cls d)
inductive ClsOk (X : Cx) : List ExceptHandler → List (Value × Nat × Suite) → Prop
  | nil : ClsOk X [] []
  | cons {h : ExceptHandler} {hs : List ExceptHandler} {c : Value × Nat × Suite} {cs : List (Value × Nat × Suite)} : ClOk X h c → ClsOk X hs cs → ClsOk X (h :: hs) (c :: cs)
theorem cl_mk {X : Cx} {x n : Str} {b₀ : Stmt} {suite : List Stmt} {np p : Pos} {cv : Value} {i : Nat} {ts : Suite} (nm : Names X x cv) (hi : X.N[i]? = some n) (hln : X.env.kindOf n = some .local)
    (hsu : ∀ (a : Addr) (oe : Obj) (cls : Value) (d : Option Addr) (pn : List (Addr × Obj)), Zc cls d oe → (∃ vs, oe.data = .fields vs) → PSs (X.suite a ((a, oe) :: pn)) (b₀ :: suite) (ts a cls d)) : ClOk X (.ExceptHandler (some (.Name x np)) (some n) (b₀ :: suite) p) (cv, i, ts) :=
  ⟨⟨x, n, b₀, suite, np, p, rfl, nm, hi, hln, hsu⟩⟩
section
variable {X : Cx} {body : List Stmt} {h₀ : ExceptHandler} {hds : List ExceptHandler} {cs : List (Value × Nat × Suite)} {pos : Pos} {tb : WX → TS} {Wout : WX}
theorem ps_try_cls (hs : X.stack = X.env :: X.outer) (hf : X.env.frame = some X.env.locals) (hN : X.N.Nodup) (tk : Takes X Wout)
    (hb : ∀ (W : WX) (pn : List (Addr × Obj)) (xe : Value → Shared → Prop), Takes (X.tr pn xe) W → PassesOwn (model X.prog X.w) X.A X.env xe → PSs (X.tr pn xe) body (tb W))
    (hh : ClsOk X (h₀ :: hds) cs) : PS X (.Try body (h₀ :: hds) [] [] pos) (fun D σ H => tb (wCl X.K Wout D cs) D σ H) := by
  refine ⟨fun pins s σ H D I h => ?_⟩
  have ok := I.ok
  have hfr : X.A.frames = some (X.env :: X.outer) := by rw [ok.frames, hs]
  refine wpAny_Try_except ?_
  let R : Flow → Shared → Prop := SP X pins D
  refine wpAny_mono ((hb (wCl X.K Wout D cs) (X.pn ++ pins) (fun e s₁ => wpAny (model X.prog X.w) X.A (noteFrame e X.env) (fun _ s₂ => wpAny (model X.prog X.w) X.A (setFlight e none) (fun _ s₃ =>
    wpAny (model X.prog X.w) X.A (handleBy e X.env (h₀ :: hds)) R X.xe s₃) X.xe s₂) X.xe s₁) (fun u s' xx => ?_) PassesOwn.looking).run [] s σ H D (I.toTry _) h) (fun f s1 hsp => ?_) (fun e s1 he => he)
  · obtain ⟨a, B, sI, pins', σ', H', cls, d, rfl, J', nb, up, sky, na, os, ag, w⟩ := xx
    have J : Inv X pins σ' H' sI := J'.ofTry ok
    have sky' : Sky B (X.env :: X.outer) a (Zc cls d) X.env.locals s'.heap := by rw [← hs]; exact sky
    show wpAny (model X.prog X.w) X.A (noteFrame (.ref a) X.env) _ _ _
    refine Sky.land Zc.steady hfr hf sky' fun h3 fl3 up3 => ?_
    have up13 := up.trans up3
    have J3 : Inv X pins σ' H' { s' with heap := h3 } := J.landed nb fl3.1 up13 os ag
    obtain ⟨oe3, vs3, he3, hz3, hd3⟩ := fl3.there
    have away : a ∉ frs (X.env :: X.outer) := fun hm => by
      obtain ⟨_, o', e', hnf⟩ := fl3.2.2.1.mem hm
      rw [he3] at e'
      cases e'
      exact hnf _ hd3
    have nL : a ≠ X.env.locals := fun z => away (List.mem_filterMap.mpr ⟨X.env, List.mem_cons_self, by rw [hf, z]⟩)
    have nF : a ∉ X.fs := fun hm => by
      obtain ⟨e, he, q⟩ := List.mem_filterMap.mp hm
      exact away (List.mem_filterMap.mpr ⟨e, List.mem_cons_of_mem _ he, q⟩)
    have S3 := J3.suite he3 hd3 na nL nF
    have each : ∀ {hs2 : List ExceptHandler} {cs2 : List (Value × Nat × Suite)}, ClsOk X hs2 cs2 → wCl X.K Wout D cs2 cls d σ' H' → wpAny (model X.prog X.w) X.A (handleBy (.ref a) X.env hs2) R X.xe { s' with heap := h3 } := by
      intro hs2 cs2 hk
      induction hk with
      | nil =>
        intro w
        refine wpAny_handleBy_nil ?_
        obtain ⟨_, _, _, oe, vs, T, oT, ts', he, _, hd, h1, _⟩ := id fl3
        unfold PySem.passOn
        refine wpAny_bind (wpAny_field he hd h1 ?_)
        rw [if_neg (show ¬ ((Value.ref T == Value.none) = true) from by simp)]
        have out : wpAny (model X.prog X.w) X.A (setFlight (.ref a) X.env.frame) (fun _ s4 => wpAny (model X.prog X.w) X.A (throw (.ref a) : Sem Flow) R X.xe s4) X.xe { s' with heap := h3 } := by
          rw [hf]
          exact HandSPX.setFlight_upZ fl3 fun h4 hh4 up4 => wpAny_throw (tk _ _ ⟨a, B, sI, pins, σ', H', cls, d, rfl, J, nb, up13.trans up4, .inr (.inr (by rw [hs]; exact hh4)), na, os, ag, w⟩)
        first
          | exact wpAny_bind (wpAny_pure (wpAny_bind out))
          | exact wpAny_bind out
      | cons hc _ ih =>
        intro w
        obtain ⟨x, n, b₀, suite, np, p, rfl, nm, hi, hln, hsu⟩ := hc.ex
        obtain ⟨b, hb1, yes, no⟩ := w
        refine wpAny_handleBy_cons (codeAny_handlers_test ?_) (by intro q; cases q)
        have LM := PySem.W.exm_one (M := model X.prog X.w) (J3.kIn) (show PySem.W.Looks (model X.prog X.w) h3 (typeOf (.ref a)) cls from fun A Q E s k q => wpAny_typeOf_ref (k _ _ he3) (by rw [hz3.1]; exact q)) hb1
        have named : ∀ {Q : Value → Shared → Prop} {E : Value → Shared → Prop}, Q _ { s' with heap := h3 } → wpAny (model X.prog X.w) (X.A.mark (some (.ref a))) (eval (.Name x np) X.env) Q E { s' with heap := h3 } := fun {Q E} q => by
          obtain ⟨hg, hdbg, hm | ⟨hm, hv, hnn⟩⟩ := nm
          · exact ld_glob (X := X.suite a ((a, oe3) :: (X.pn ++ pins))) S3 hg hm q hdbg
          · exact ld_blt (X := X.suite a ((a, oe3) :: (X.pn ++ pins))) S3 hg hm hv q hnn hdbg
        refine named (LM.here ?_)
        cases b with
        | false => exact ih (no rfl)
        | true =>
          refine codeAny_handlers_suite_as ?_
          refine HandSPX.lands_againZ fl3 fun h4 fl4 up4 => ?_
          have J4 : Inv X pins σ' H' { s' with heap := h4 } := J.landed nb fl4.1 (up13.trans up4) os ag
          obtain ⟨oe4, vs4, he4, hz4, hd4⟩ := fl4.there
          have S4 := J4.suite he4 hd4 na nL nF
          refine store_ok (X := X.suite a ((a, oe4) :: (X.pn ++ pins))) (v := .ref a) S4 hN hi (.inl hln) rfl (fun s5 S5 => ?_) (.inr hln)
          have fin : ∀ {σ6 : L2.St} {H6 : Hp} {s6 : Shared} {Q : Shared → Prop}, Inv (X.suite a ((a, oe4) :: (X.pn ++ pins))) [] σ6 H6 s6 → (∀ s7, Inv X pins (σ6.set _ none) H6 s7 → Q s7) →
              wpAny (model X.prog X.w) X.A (do bindName X.env n .none; unbindBehindTheSuite X.env n p) (fun _ s7 => Q s7) X.xe s6 := fun S6 hq => gone_ok (S6.unsuite ok) hN hi hln hq
          refine wpAny_mono ((hsu a oe4 cls d (X.pn ++ pins) hz4 ⟨_, hd4⟩).run [] s5 _ H' _ S5 (yes rfl a na)) (fun f s6 hsp => ?_) (fun _ _ z => False.elim z)
          cases f with
          | ret u =>
            obtain ⟨v6, σ6, H6, S6, r6, q6⟩ := hsp
            exact fin S6 fun s7 J7 => ⟨_, _, _, J7, r6, q6⟩
          | next =>
            obtain ⟨σ6, H6, S6, q6⟩ := hsp
            exact fin S6 fun s7 J7 => ⟨_, _, J7, q6⟩
          | brk =>
            obtain ⟨σ6, H6, S6, q6⟩ := hsp
            exact fin S6 fun s7 J7 => ⟨_, _, J7, q6⟩
          | cont =>
            obtain ⟨σ6, H6, S6, q6⟩ := hsp
            exact fin S6 fun s7 J7 => ⟨_, _, J7, q6⟩
    exact each hh w
  · cases f with
    | ret u =>
      obtain ⟨v, σ', H', J', r, q⟩ := hsp
      exact ⟨v, σ', H', J'.ofTry ok, r, q⟩
    | next =>
      obtain ⟨σ', H', J', q⟩ := hsp
      exact wpAny_execs_nil ⟨σ', H', J'.ofTry ok, q⟩
    | brk =>
      obtain ⟨σ', H', J', q⟩ := hsp
      exact ⟨σ', H', J'.ofTry ok, q⟩
    | cont =>
      obtain ⟨σ', H', J', q⟩ := hsp
      exact ⟨σ', H', J'.ofTry ok, q⟩
end
end Ve
namespace Vx
open PySem PySem.Spec PyProof.Rows L2
theorem exm_mk0 {K : PySem.W.Frag} {S C : Addr} (h1 : PySem.W.subIn K (.ref C) (.type "BaseException") = some true) (h0 : (Value.ref S == Value.ref C) = false) (h2 : PySem.W.isClsIn K C = true) (h3 : PySem.W.typeIn K (.ref C) = some (.type "type")) (h4 : PySem.W.subIn K (.ref S) (.ref C) = some false) :
    PySem.W.exmOne K (.ref S) (.ref C) = some false := by
  unfold PySem.W.exmOne
  rw [h1]
  have k := kit_mk0 (K := K) h0 h2 h3 h4
  unfold PySem.W.kitOne at k
  simpa [h0] using k
theorem Sep.mutstep {M : List Addr} {H0 G0 G H H' : Hp} {O : List Addr} (S : Sep M H0 G0 G H O) {L : List Addr} (x : SameXs L H H') (hL : ∀ a ∈ L, a ∈ O) (hs : ∀ a ∈ L, H' a ≠ none) {G' : Hp} (eG : Same G G') (sG : Same G' H') (hn : ∀ b, H b ≠ none → G b = none → G' b = none) : Sep M H0 G0 G' H' O := by
  have S1 := S.mut x hL hs
  exact ⟨S1.base, S1.pm, sG, S.g0.trans eG, fun b hb gb => hn b (fun z => hb (S.free z)) (S.gn b hb gb), fun a ha => ⟨hn a (S.ow a ha).2.1 (S.ow a ha).1, (S1.ow a ha).2⟩⟩
end Vx
/-! # trees that are changed from outside; trees within objects -/
namespace Vx
open PySem PySem.Spec PyProof.Rows L2
section
variable {M : List Addr} {H0 G0 G H H' : Hp} {O : List Addr}
/-- a change of what is owned, by which trees grow and data come to stay -/
theorem Sep.mutgrow (S : Sep M H0 G0 G H O) {G' : Hp} {L : List Addr} (x : SameXs L H H') (hL : ∀ a ∈ L, a ∈ O) (hs : ∀ a ∈ L, H' a ≠ none) (eG : Same G G') (sG : Same G' H') (hn : ∀ b, H b ≠ none → G b = none → G' b = none)
    {O' : List Addr} (hO : ∀ b ∈ O', b ∈ O ∨ (H b = none ∧ G' b = none ∧ H' b ≠ none)) : Sep M H0 G0 G' H' O' := by
  have S1 := S.mut x hL hs
  have there : ∀ b, H b ≠ none → H' b ≠ none := fun b h => by
    by_cases hb : b ∈ L
    · exact hs b hb
    · cases q : H b with
      | none => exact absurd q h
      | some o => exact some_ne (x b o q hb)
  refine ⟨S1.base, S1.pm, sG, S.g0.trans eG, fun b hb gb => hn b (fun z => hb (S.free z)) (S.gn b hb gb), fun b hb => ?_⟩
  rcases hO b hb with h | ⟨h1, h2, h3⟩
  · obtain ⟨g, h, m⟩ := S.ow b h
    exact ⟨hn b h g, there b h, m⟩
  · exact ⟨h2, h3, .inr (S.free h1)⟩
/-- what is borrowed is none of what a callee may change -/
theorem Sep.bhide (S : Sep M H0 G0 G H O) {L : List Addr} (h : ∀ a ∈ L, a ∈ O) : Same (hideL M H0) (hideL L H) := fun b o e => by
  rw [hideL_out fun z => b_ne e S (h b z) rfl]
  exact S.bM b o e
end
theorem grown_ne {H : Hp} {L F : List Addr} {x : Addr} (s : ∀ b ∈ L, b ∈ F ∨ H b = none) (n : ∀ b ∈ F, b ≠ x) (h : H x ≠ none) : ∀ b ∈ L, b ≠ x := fun b hb z => by
  rcases s b hb with q | q
  · exact n b q z
  · exact h (z ▸ q)
theorem grown_nl {H : Hp} {L F L2 : List Addr} (s : ∀ b ∈ L, b ∈ F ∨ H b = none) (n : ∀ b ∈ F, b ∉ L2) (h : ∀ b ∈ L2, H b ≠ none) : ∀ b ∈ L, b ∉ L2 := fun b hb z => by
  rcases s b hb with q | q
  · exact n b q z
  · exact h b z q
section
variable {α : Type} {f : α → PyData} {G H : Hp} {a : Addr}
theorem rp_listAt {xs : List α} (r : Rp H (.ref a) (encL f xs)) : ∃ vs, H a = some (.lst vs) ∧ RpAll H vs (xs.map f) := by
  obtain ⟨b, vs, e, h, d⟩ := rp_list r
  cases e
  exact ⟨vs, h, d⟩
theorem OwAll.frzs : ∀ {vs : List V} {xs : List α}, RpAll G vs (xs.map f) → OwAll G H [] vs (xs.map (oF f))
  | _, [], .nil => .nil
  | _, _ :: _, .cons r t => .cons (L1 := []) (L2 := []) (.frz r) (OwAll.frzs t) (fun _ z => nomatch z)
theorem OwAll.toFrzs : ∀ {L : List Addr} {vs : List V} {xs : List α}, OwAll G H L vs (xs.map (oF f)) → RpAll G vs (xs.map f)
  | _, _, [], .nil => .nil
  | _, _, x :: xs, .cons a r _ => by
    cases a with
    | frz z => exact .cons z (OwAll.toFrzs r)
end
theorem rp_dgetI {H : Hp} {v : V} {d : PyData} {k : Int} (g : (0 : Int) ≤ k ∧ dHasT d (Int.toNat k) = true) (r : Rp H v d) : ∃ a vs u, v = .ref a ∧ H a = some (.tup vs) ∧ atI vs k = some u ∧ Rp H u (dGet d (Int.toNat k)) := by
  obtain ⟨a, vs, u, e, h, x, y⟩ := rp_dget g.2 r
  rw [Int.toNat_of_nonneg g.1] at x
  exact ⟨a, vs, u, e, h, x, y⟩
/-! ### what may be None -/
def OptF {α : Type} (G hp : Hp) (v : V) (x : Option (List α)) (f : α → PyData) : Prop := match x with
  | none => v = .non
  | some xs => ∃ a vs, v = .ref a ∧ hp a = some (.lst vs) ∧ RpAll G vs (xs.map f)
def optE {α β : Type} (x : Option α) (a : Rx β) (b : α → Rx β) : Rx β := match x with
  | none => a
  | some y => b y
theorem cW_optN {α β : Type} {a : Rx β} {b : α → Rx β} {K : β → Prop} {E : Nat → Prop} (h : cW (optE none a b) K E) : cW a K E := h
theorem cW_optS {α β : Type} {y : α} {a : Rx β} {b : α → Rx β} {K : β → Prop} {E : Nat → Prop} (h : cW (optE (some y) a b) K E) : cW (b y) K E := h
/-! ### sorted(list of ints) -/
def insI (x : Int) : List Int → List Int
  | [] => [x]
  | y :: r => if x ≤ y then x :: y :: r else y :: insI x r
def sortL (xs : List Int) : List Int := xs.foldr insI []
theorem insI_perm {x : Int} : ∀ {l : List Int}, (insI x l).Perm (x :: l)
  | [] => .refl _
  | y :: r => by
    unfold insI
    split
    · exact .refl _
    · exact ((insI_perm (l := r)).cons y).trans (.swap x y r)
theorem sortL_perm : ∀ l : List Int, (sortL l).Perm l
  | [] => .refl _
  | x :: r => (insI_perm (l := sortL r)).trans ((sortL_perm r).cons x)
theorem insI_pw {x : Int} : ∀ {l : List Int}, l.Pairwise (· ≤ ·) → (insI x l).Pairwise (· ≤ ·)
  | [], _ => List.pairwise_singleton _ _
  | y :: r, h => by
    obtain ⟨h1, h2⟩ := List.pairwise_cons.mp h
    unfold insI
    split
    · rename_i c
      refine List.pairwise_cons.mpr ⟨fun z hz => ?_, h⟩
      rcases List.mem_cons.mp hz with rfl | hz
      · exact c
      · exact Int.le_trans c (h1 z hz)
    · rename_i c
      refine List.pairwise_cons.mpr ⟨fun z hz => ?_, insI_pw h2⟩
      rcases List.mem_cons.mp ((insI_perm (l := r)).mem_iff.mp hz) with rfl | hz
      · omega
      · exact h1 z hz
theorem sortL_pw : ∀ l : List Int, (sortL l).Pairwise (· ≤ ·)
  | [] => List.Pairwise.nil
  | _ :: r => insI_pw (sortL_pw r)
theorem sortL_of {ns ks : List Int} (p : ns.Perm ks) (h : ns.Pairwise (· ≤ ·)) : ns = sortL ks :=
  (p.trans (sortL_perm ks).symm).eq_of_pairwise (fun _ _ _ _ a b => Int.le_antisymm a b) h (sortL_pw ks)
def rSortL (K : PySem.W.Frag) : List V → Hp → VK → Prop := fun xs H Q => ∃ (a : Addr) (ns : List Int), xs = [.ref a] ∧ SqL K H a (ns.map V.int) ∧ ∀ p, H p = none → Q (.ref p) (upd H p (.lst ((sortL ns).map V.int)))
theorem cr_sortL {X : Cx} {K : PySem.W.Frag} (hK : X.K = K := by rfl) : CallR X (.builtin "sorted") (rSortL K) := by
  subst hK
  intro pins s σ H vs us Q I r h
  obtain ⟨a, ns, e, hs, q⟩ := h
  refine cr_sortedI pins s σ H vs us Q I r ⟨a, ns, e, hs, fun ns' p pm pw hp => ?_⟩
  rw [sortL_of pm pw]
  exact q p hp
/-! ### trees given away, put together -/
theorem taken_ne1 {H : Hp} {F : List Addr} {a x : Addr} (s : a ∈ F ∨ H a = none) (n : ∀ b ∈ F, b ≠ x) (h : H x ≠ none) : a ≠ x := fun z => s.elim (fun q => n a q z) (fun q => h (z ▸ q))
theorem taken_ne {H : Hp} {F L2 : List Addr} {a : Addr} (s : a ∈ F ∨ H a = none) (n : ∀ b ∈ F, b ∉ L2) (h : ∀ b ∈ L2, H b ≠ none) : a ∉ L2 := fun z => s.elim (fun q => n a q z) (fun q => h a z q)
theorem taken_nl {H : Hp} {F L2 : List Addr} {a : Addr} (s : a ∈ F ∨ H a = none) (n : ∀ b ∈ F, b ∉ L2) (h : ∀ b ∈ L2, H b ≠ none) : ∀ b ∈ L2, b ≠ a := fun b hb z => taken_ne s n h (z ▸ hb)
theorem cat_lenW {α β : Type} {f : α → Dt} {g : β → Dt} {G H : Hp} {L1 L2 : List Addr} {vs ws : List V} {xs : List α} {ys : List β} (a : OwAll G H L1 vs (xs.map f)) (b : OwAll G H L2 ws (ys.map g)) (h : xs.length + ys.length ≤ 1000000) : vs.length + ws.length ≤ sizeLine := by
  rw [a.lenM, b.lenM]
  exact smallE h
theorem app_trees {α : Type} {f : α → Dt} {G H : Hp} {L1 L2 : List Addr} {vs ws : List V} {xs ys : List α} (zs : List α) (e : zs = xs ++ ys) (a : OwAll G H L1 vs (xs.map f)) (b : OwAll G H L2 ws (ys.map f)) (d : ∀ c ∈ L1, c ∉ L2) : OwAll G H (L1 ++ L2) (vs ++ ws) (zs.map f) := by
  rw [e, List.map_append]
  exact OwAll.app b a d
/-- the item of a turn is the part at its index -/
theorem item_at {vs : List V} {i : Nat} {k : Int} {x v : V} (h1 : atI vs k = some v) (hj : vs[i]? = some x) (hk : k = 0 + (i : Int)) : x = v := by
  have hl := get_len hj
  have e : atI vs k = some x := by
    unfold atI ixN
    rw [if_pos (by omega), if_pos (by omega)]
    show vs[k.toNat]? = some x
    rw [show k.toNat = i by omega, hj]
  rw [e] at h1
  exact Option.some.inj h1
theorem RpAll.at_ix {α : Type} [Inhabited α] {f : α → PyData} {G : Hp} {vs : List V} {xs : List α} {k : Int} {v : V} (d : RpAll G vs (xs.map f)) (g : -(xs.length : Int) ≤ k ∧ k < xs.length) (h : atI vs k = some v) : Rp G v (f (itD xs k)) := by
  obtain ⟨v', h1, h3⟩ := RpAll.ixD (k := k) d g
  rw [h] at h1
  cases h1
  exact h3
theorem atI_same {vs : List V} {k : Int} {v u : V} (h1 : atI vs k = some v) (h2 : atI vs k = some u) : v = u := by
  rw [h1] at h2
  exact Option.some.inj h2
theorem setL_g {α : Type} {xs : List α} {k j : Int} {y : α} (g : -(xs.length : Int) ≤ k ∧ k < xs.length) : -((setL xs j y).length : Int) ≤ k ∧ k < (setL xs j y).length := by
  have : (setL xs j y).length = xs.length := by
    unfold setL
    rw [List.length_set]
  rw [this]
  exact g
theorem Ow.atList {α : Type} {f : α → Dt} {G H : Hp} {L1 : List Addr} {b : Addr} {xs : List α} (w : Ow G H L1 (.ref b) (oL f xs)) : ∃ vs Lb, L1 = b :: Lb ∧ H b = some (.lst vs) ∧ OwAll G H Lb vs (xs.map f) ∧ ∀ c ∈ Lb, c ≠ b := by
  obtain ⟨b2, vs, Lb, e, l, h, wb, nb⟩ := Ow.toList w
  cases e
  exact ⟨vs, Lb, l, h, wb, nb⟩
theorem part_at {α : Type} {f : α → PyData} {G H : Hp} {b : Addr} {vs : List V} {xs : List α} (r : Rp G (.ref b) (encL f xs)) (s : Same G H) (h : H b = some (.lst vs)) : G b = some (.lst vs) ∧ RpAll G vs (xs.map f) := by
  obtain ⟨vs2, h2, d⟩ := rp_listAt r
  have z := (s b _ h2).symm.trans h
  cases z
  exact ⟨h2, d⟩
theorem cat_len2 {α β : Type} {f : α → PyData} {g : β → PyData} {G G2 : Hp} {vs ws : List V} {xs : List α} {ys : List β} (a : RpAll G vs (xs.map f)) (b : RpAll G2 ws (ys.map g)) (h : xs.length + ys.length ≤ 1000000) : vs.length + ws.length ≤ sizeLine := by
  rw [a.len, b.len, List.length_map, List.length_map]
  exact smallE h
end Vx
namespace Vx
open PySem PySem.Spec PyProof.Rows L2
/-! ### a[lo:hi] = b, lists, within the bounds -/
def sSliceSet (td : TE) (tl th : TO) (tv : TE) : TS := fun D σ H => tv σ H fun v H1 => td σ H1 fun x H2 => tl σ H2 fun l H3 => th σ H3 fun u H4 =>
  ∃ (a b : Addr) (xs ys : List V) (lo hi : Int), x = .ref a ∧ v = .ref b ∧ l = some lo ∧ u = some hi ∧ H4 a = some (.lst xs) ∧ H4 b = some (.lst ys) ∧ a ≠ b ∧ 0 ≤ lo ∧ lo ≤ hi ∧ hi ≤ xs.length ∧ xs.length + ys.length ≤ sizeLine ∧
    D.nx σ (upd H4 a (.lst (xs.take lo.toNat ++ ys ++ xs.drop hi.toNat)))
theorem ps_sset {X : Cx} {o lo hi value : Expr} {p2 pos' pos : Pos} {td tv : TE} {tl th : TO} (ho : PE X o td) (hl : PO X (some lo) tl) (hu : PO X (some hi) th) (hv : PE X value tv)
    (hs : swapsWith value (some (.Subscript o (.Slice (some lo) (some hi) none p2) pos')) pos.line X.env = pure false) :
    PS X (.Assign [.Subscript o (.Slice (some lo) (some hi) none p2) pos'] value pos) (sSliceSet td tl th tv) := by
  refine ⟨fun pins s σ H D I h => ?_⟩
  refine wpAny_Assign_Subscript (thn (hv.run pins s σ H _ I h) fun r s1 ⟨v, H1, I1, rv, q1⟩ => thn (ho.run pins s1 σ H1 _ I1 q1) fun u s2 ⟨x, H2, I2, rx, q2⟩ => ?_) hs
  refine wpAny_Slice (thn (hl.run pins s2 σ H2 _ I2 q2) fun vl s3 ⟨l, H3, I3, pl, q3⟩ => thn (hu.run pins s3 σ H3 _ I3 q3) fun vu s4 ⟨z, H4, I4, pu, a, b, xs, ys, i, j, ex, ev, el, ez, ha, hb, hne, h0, h1, h2, h3, q⟩ => ?_)
  subst ex ev el ez
  rw [evalPart_none]
  refine wpAny_pure ?_
  obtain rfl : u = Value.ref a := rx
  obtain rfl : r = Value.ref b := rv
  have I5 : Inv X pins σ H4 { s4 with heap := s4.heap.push { cls := .type "slice", data := .fields #[vl, vu, .none] } } := I4.kept (t' := s4.toks) fun b ob q => Heap.get?_push_of_some _ q
  have rl : RelV (.int i) vl := by
    cases pl
    exact ⟨_, rfl⟩
  have ru : RelV (.int j) vu := by
    cases pu
    exact ⟨_, rfl⟩
  exact set_slice I5 ha hb hne (Heap.IsSliceOf.new ..) rl ru h0 h1 h2 h3 fun s' I' => ⟨σ, _, I', q⟩
section
variable {G H : Hp}
theorem OwAll.split : ∀ {L : List Addr} {vs : List V} {ds : List Dt} (k : Nat), OwAll G H L vs ds → ∃ L1 L2, (∀ b ∈ L1, b ∈ L) ∧ (∀ b ∈ L2, b ∈ L) ∧ (∀ b ∈ L1, b ∉ L2) ∧ OwAll G H L1 (vs.take k) (ds.take k) ∧ OwAll G H L2 (vs.drop k) (ds.drop k)
  | L, _, _, 0, w => by
    refine ⟨[], L, by simp, fun _ z => z, by simp, ?_, ?_⟩
    · exact .nil
    · exact w
  | _, _, _, _ + 1, .nil => by
    refine ⟨[], [], by simp, by simp, by simp, ?_, ?_⟩
    · exact .nil
    · exact .nil
  | _, _, _, k + 1, .cons (L1 := La) (L2 := Lb) a r n => by
    obtain ⟨L1, L2, h1, h2, h3, w1, w2⟩ := OwAll.split k r
    refine ⟨La ++ L1, L2, fun b hb => ?_, fun b hb => List.mem_append_right _ (h2 b hb), fun b hb z => ?_, .cons a w1 (fun b hb z => n b hb (h1 b z)), w2⟩
    · rcases List.mem_append.mp hb with q | q
      · exact List.mem_append_left _ q
      · exact List.mem_append_right _ (h1 b q)
    · rcases List.mem_append.mp hb with q | q
      · exact n b q (h2 b z)
      · exact h3 b q z
/-- what a tree holds behind a slice store -/
theorem OwAll.splice {α : Type} {f : α → Dt} {L Lb : List Addr} {vs ws : List V} {xs ys : List α} {a c : Nat} (w : OwAll G H L vs (xs.map f)) (v : OwAll G H Lb ws (ys.map f)) (h : a ≤ c) (d : ∀ b ∈ Lb, b ∉ L) :
    ∃ L', (∀ b ∈ L', b ∈ L ++ Lb) ∧ OwAll G H L' (vs.take a ++ ws ++ vs.drop c) ((xs.take a ++ ys ++ xs.drop c).map f) := by
  obtain ⟨L1, L2, h1, h2, h3, w1, w2⟩ := OwAll.split a w
  obtain ⟨M1, M2, k1, k2, k3, u1, u2⟩ := OwAll.split (c - a) w2
  rw [List.drop_drop, List.drop_drop, show a + (c - a) = c by omega] at u2
  refine ⟨(L1 ++ Lb) ++ M2, fun b hb => ?_, ?_⟩
  · rcases List.mem_append.mp hb with q | q
    · rcases List.mem_append.mp q with q | q
      · exact List.mem_append_left _ (h1 b q)
      · exact List.mem_append_right _ q
    · exact List.mem_append_left _ (h2 b (k2 b q))
  · rw [List.map_append, List.map_append, List.map_take, List.map_drop]
    refine OwAll.app u2 (OwAll.app v w1 fun b hb z => d b z (h1 b hb)) fun b hb z => ?_
    rcases List.mem_append.mp hb with q | q
    · exact h3 b q (k2 b z)
    · exact d b q (h2 b (k2 b z))
def spliceL {α : Type} (xs : List α) (lo hi : Int) (ys : List α) : List α := xs.take lo.toNat ++ ys ++ xs.drop hi.toNat
theorem slc_hi {α : Type} {f : α → Dt} {L : List Addr} {vs : List V} {xs : List α} {hi : Int} (w : OwAll G H L vs (xs.map f)) (g : hi ≤ ((xs.length : Nat) : Int)) : hi ≤ ((vs.length : Nat) : Int) := by
  rw [w.lenM]
  exact g
theorem OwAll.spliceM {α : Type} {f : α → Dt} {L Lb : List Addr} {vs ws : List V} {xs ys : List α} {lo hi : Int} (w : OwAll G H L vs (xs.map f)) (v : OwAll G H Lb ws (ys.map f)) (g : (0 : Int) ≤ lo ∧ lo ≤ hi ∧ hi ≤ ((xs.length : Nat) : Int) ∧ xs.length + ys.length ≤ 1000000) (d : ∀ b ∈ Lb, b ∉ L) :
    ∃ L', (∀ b ∈ L', b ∈ L ++ Lb) ∧ OwAll G H L' (vs.take lo.toNat ++ ws ++ vs.drop hi.toNat) ((spliceL xs lo hi ys).map f) := OwAll.splice w v (by omega) d
end
end Vx
namespace Vx
open PySem PySem.Spec PyProof.Rows L2
/-! ### range with a step up -/
def rngP (lo c : Int) (n : Nat) : List Int := (List.range n).map fun (j : Nat) => lo + (j : Int) * c
theorem rngP_get {lo c : Int} {n i : Nat} (h : i < n) : (rngP lo c n)[i]? = some (lo + (i : Int) * c) := by
  unfold rngP
  rw [List.getElem?_map, List.getElem?_range h] <;> rfl
theorem rngP_len (lo c : Int) (n : Nat) : (rngP lo c n).length = n := by
  unfold rngP
  rw [List.length_map, List.length_range]
def stepN (lo hi c : Int) : Nat := if lo < hi then ((hi - lo - 1) / c + 1).toNat else 0
theorem rangeSize_up {a b c : Int} (hc : 0 < c) : Builtin.Range.rangeSize a b c = (stepN a b c : Int) := by
  unfold Builtin.Range.rangeSize stepN
  rw [if_pos (show c > 0 from hc)]
  by_cases h : a < b
  · rw [if_pos h, if_pos h]
    have : 0 ≤ (b - a - 1) / c := Int.ediv_nonneg (by omega) (by omega)
    omega
  · rw [if_neg h, if_neg h]
    rfl
theorem RgC.pos {a b c : Int} (h : (-(2 ^ 61) ≤ a ∧ a < 2 ^ 61) ∧ (-(2 ^ 61) ≤ b ∧ b < 2 ^ 61) ∧ 0 < c ∧ c < 1073741824) : RgC a b c (stepN a b c) := by
  obtain ⟨⟨ha, ha'⟩, ⟨hb, hb'⟩, hc, hc'⟩ := h
  refine ⟨by omega, by omega, ?_, rangeSize_up hc⟩
  have e1 := rangeSize_up (a := a) (b := b) hc
  have e2 : (stepN a b c : Int) ≤ 2 ^ 62 := by
    unfold stepN
    split
    · have := Int.ediv_le_self (a := b - a - 1) c (by omega)
      have : 0 ≤ (b - a - 1) / c := Int.ediv_nonneg (by omega) (by omega)
      omega
    · show (0 : Int) ≤ _
      omega
  have e4 : (0 : Int) ≤ (stepN a b c : Int) := by omega
  unfold Builtin.Range.small
  rw [e1]
  generalize (stepN a b c : Int) = n at e2 e4 ⊢
  simp only [Builtin.Range.rangeFitsLong, Bool.and_eq_true, Bool.or_eq_true, decide_eq_true_eq, beq_iff_eq]
  rw [if_pos (show c > 0 from hc)]
  simp only [Bool.and_eq_true, decide_eq_true_eq]
  omega
end Vx
namespace Vx
open PySem PySem.Spec PyProof.Rows L2
/-! ### a[lo:hi] = (x, ..), numbers -/
section
variable {prog : Program} {w : World} {A : Around} {E : Value → Shared → Prop} {s : Shared}
theorem setItem_sliceT {l b sl : Addr} {items new : Array Value} {n n2 : Nat} {vl vu : Value} {a c : Nat} {Q : Unit → Shared → Prop}
    (e : s.heap.get? l = some { cls := .type "list", data := .seq items n }) {o2 : Obj} (e2 : s.heap.get? b = some o2) (c2 : o2.cls = .type "tuple") (d2 : o2.data = .seq new n2) (hne : l ≠ b)
    (hs : s.heap.IsSliceOf sl vl vu .none) (pl : IsPart vl (some (a : Int))) (pu : IsPart vu (some (c : Int))) (hac : a ≤ c) (hc : c ≤ items.size)
    (hsz : items.size + new.size ≤ sizeLine) (h : Q () { s with heap := s.heap.update l (Obj.mapSeq fun xs => xs.extract 0 a ++ new ++ xs.extract c xs.size) }) :
    wpAny (model prog w) A (setItem (.ref l) (.ref sl) (.ref b)) Q E s := by
  have hl : s.heap.IsList l items := PySem.IsL.isList e
  have hTb : s.TypeIs (.ref b) "tuple" := ⟨_, e2, c2⟩
  obtain ⟨os, hos, hcs, hds⟩ := id hs
  have hTs : s.TypeIs (.ref sl) "slice" := ⟨os, hos, hcs⟩
  have hstep : ¬ ((rawPart none == rawInt 0) = true) := Bool.false_ne_true
  have hsame : Builtin.List.listSameRef (.ref l) (.ref b) = false := by
    unfold Builtin.List.listSameRef
    exact beq_eq_false_iff_ne.mpr hne
  have hmax : (max (a : Int) (c : Int)).toNat = c := by omega
  have hz' : ((fun xs : Array Value => xs.extract 0 a ++ new ++ xs.extract c xs.size) items).size ≤ sizeLine + 1 := by
    simp only [Array.size_append, Array.size_extract]
    omega
  unfold setItem
  try with_reducible refine wpAny_holding ?_
  first | refine wpAny_bind (wpAny_pure ?_) | skip
  refine wpAny_bind (wpAny_sequenceKey hl.typeIs (by decide) ?_)
  refine wpAny_bind (wpAny_callSpecial?_slot (name := Str.ofString "__setitem__") hl.typeIs slot_list_setitem
    (wpAny_call_entry slot_list_setitem hl.typeIs entry_list_setitem ?_ (args_list_setitem _ _ _)))
  show wpAny _ _ (Builtin.List.listSubscript? (.ref sl) >>= _) _ _ s
  refine wpAny_bind ?_
  unfold Builtin.List.listSubscript?
  refine wpAny_bind (wpAny_specialOf hTs slice_no_index ?_)
  simp only [Option.isNone_none, if_true]
  refine wpAny_pure ?_
  show wpAny _ _ (typeOf (.ref sl) >>= _) _ _ s
  refine wpAny_bind (wpAny_typeOf hTs ?_)
  first
    | rw [if_neg (by decide)]
    | refine PySem.W.KFB.if_not (by decide) ?_
  rw [listSliceParts_eq]
  refine wpAny_bind (wpAny_bind (wpAny_field hos hds (x := .none) rfl (wpAny_bind (wpAny_listPart .none ?_))))
  rw [if_neg hstep]
  refine wpAny_bind (wpAny_field hos hds (x := vl) rfl (wpAny_bind (wpAny_listPart pl ?_)))
  refine wpAny_bind (wpAny_field hos hds (x := vu) rfl (wpAny_bind (wpAny_listPart pu (wpAny_pure ?_))))
  first
    | simp only [hsame, Bool.false_eq_true, if_false]
    | refine PySem.W.KFB.if_not hsame ?_
    | (dsimp only
       rw [if_neg (by rw [hsame]; exact Bool.false_ne_true)])
  refine wpAny_bind (m := Builtin.List.listAllItems (.ref b) "must assign iterable to extended slice") ?_
  unfold Builtin.List.listAllItems
  refine wpAny_bind (wpAny_typeOf hTb ?_)
  first
    | refine PySem.W.KFB.if_so (by decide) ?_
    | rw [if_pos (by decide)]
    | simp only [beq_self_eq_true, Bool.true_or, if_true]
  unfold Builtin.List.listItems
  refine wpAny_bind (wpAny_seqItems e2 d2 (wpAny_pure ?_))
  refine wpAny_bind (wpAny_bind (wpAny_seqItems e rfl (wpAny_pure ?_)))
  refine wpAny_bind (wpAny_of_eq ((sliceIndices_raw (some (a : Int)) (some (c : Int)) none items.size (by simp)).trans (congrArg (pure : Int × Int × Int → Sem (Int × Int × Int)) (bounds_run hac hc))) ?_)
  show wpAny _ _ (if ((1 : Int) == 1) = true then _ else _) _ _ s
  rw [if_pos (by decide)]
  refine wpAny_bind (wpAny_rule ?_)
  first
    | simp only [notLongL hsz, Bool.false_eq_true, if_false]
    | refine PySem.W.KFB.if_not (notLongL hsz) ?_
  first | refine wpAny_bind (wpAny_pure ?_) | skip
  show wpAny _ _ (updateSeq l (fun xs => xs.extract 0 ((a : Int)).toNat ++ new ++ xs.extract (max (a : Int) (c : Int)).toNat xs.size) >>= _) _ _ s
  rw [hmax, Int.toNat_natCast]
  refine wpAny_bind (wpAny_updateSeq (hz := Nat.le_trans (Nat.le_add_right _ _) hsz) (_hz' := hz') e rfl ?_)
  refine wpAny_bind (wpAny_letGo ?_)
  first
    | exact wpAny_bind (wpAny_pure (wpAny_pure ⟨.none, rfl, wpAny_pure h⟩))
    | exact wpAny_pure ⟨.none, rfl, wpAny_pure h⟩
end
section
variable {X : Cx}
theorem set_sliceT {pins : List (Addr × Obj)} {s : Shared} {σ : L2.St} {H : Hp} {l b sl : Addr} {xs ys : List V} {a c : Int} {vl vu : Value} {Q : Unit → Shared → Prop} (I : Inv X pins σ H s)
    (hH : H l = some (.lst xs)) (hB : SqT X.K H b ys) (hs : s.heap.IsSliceOf sl vl vu .none) (ra : RelV (.int a) vl) (rc : RelV (.int c) vu) (h0 : 0 ≤ a) (hac : a ≤ c) (hc : c ≤ xs.length)
    (hz : xs.length + ys.length ≤ sizeLine) (h : ∀ s', Inv X pins σ (upd H l (.lst (xs.take a.toNat ++ ys ++ xs.drop c.toNat))) s' → Q () s') :
    wpAny (model X.prog X.w) X.A (setItem (.ref l) (.ref sl) (.ref b)) Q X.xe s := by
  obtain ⟨ta, rfl⟩ := ra
  obtain ⟨tc, rfl⟩ := rc
  obtain ⟨z, its, n, r, hl, e⟩ := I.lstM hH
  obtain ⟨its2, r2, p2, _⟩ := I.tuple hB
  obtain ⟨o2, e2, c2, n2, d2⟩ := p2
  obtain ⟨a', rfl⟩ := Int.eq_ofNat_of_zero_le h0
  obtain ⟨c', rfl⟩ := Int.eq_ofNat_of_zero_le (Int.le_trans h0 hac)
  simp only [Int.toNat_natCast] at h
  have hne : l ≠ b := fun z => by
    subst z
    rw [e] at e2
    rw [← Option.some.inj e2] at c2
    simp at c2
  have hl2 := r2.length
  refine setItem_sliceT (a := a') (c := c') e e2 c2 d2 hne hs (.int _ _) (.int _ _) (by omega) (by rw [List.size_toArray]; omega) (by rw [List.size_toArray, List.size_toArray]; omega) (h _ ?_)
  refine I.lset (its' := its.take a' ++ its2 ++ its.drop c') (t' := s.toks) hH e ?_ (Vals.append (Vals.append (r.take _) r2) (r.drop _)) ?_
  · exact splice_eq its its2 a' c'
  · rw [List.length_append, List.length_append, List.length_take, List.length_drop]
    omega
end
/-- a[lo:hi] = (x, ..) -/
def sSliceSetT (K : PySem.W.Frag) (td : TE) (tl th : TO) (tv : TE) : TS := fun D σ H => tv σ H fun v H1 => td σ H1 fun x H2 => tl σ H2 fun l H3 => th σ H3 fun u H4 =>
  ∃ (a b : Addr) (xs ys : List V) (lo hi : Int), x = .ref a ∧ v = .ref b ∧ l = some lo ∧ u = some hi ∧ H4 a = some (.lst xs) ∧ SqT K H4 b ys ∧ 0 ≤ lo ∧ lo ≤ hi ∧ hi ≤ xs.length ∧ xs.length + ys.length ≤ sizeLine ∧
    D.nx σ (upd H4 a (.lst (xs.take lo.toNat ++ ys ++ xs.drop hi.toNat)))
theorem ps_ssetT {X : Cx} {K : PySem.W.Frag} {o lo hi value : Expr} {p2 pos' pos : Pos} {td tv : TE} {tl th : TO} (ho : PE X o td) (hl : PO X (some lo) tl) (hu : PO X (some hi) th) (hv : PE X value tv)
    (hs : swapsWith value (some (.Subscript o (.Slice (some lo) (some hi) none p2) pos')) pos.line X.env = pure false) (hK : X.K = K := by rfl) :
    PS X (.Assign [.Subscript o (.Slice (some lo) (some hi) none p2) pos'] value pos) (sSliceSetT K td tl th tv) := by
  subst hK
  refine ⟨fun pins s σ H D I h => ?_⟩
  refine wpAny_Assign_Subscript (thn (hv.run pins s σ H _ I h) fun r s1 ⟨v, H1, I1, rv, q1⟩ => thn (ho.run pins s1 σ H1 _ I1 q1) fun u s2 ⟨x, H2, I2, rx, q2⟩ => ?_) hs
  refine wpAny_Slice (thn (hl.run pins s2 σ H2 _ I2 q2) fun vl s3 ⟨l, H3, I3, pl, q3⟩ => thn (hu.run pins s3 σ H3 _ I3 q3) fun vu s4 ⟨z, H4, I4, pu, a, b, xs, ys, i, j, ex, ev, el, ez, ha, hb, h0, h1, h2, h3, q⟩ => ?_)
  subst ex ev el ez
  rw [evalPart_none]
  refine wpAny_pure ?_
  obtain rfl : u = Value.ref a := rx
  obtain rfl : r = Value.ref b := rv
  have I5 : Inv X pins σ H4 { s4 with heap := s4.heap.push { cls := .type "slice", data := .fields #[vl, vu, .none] } } := I4.kept (t' := s4.toks) fun b ob q => Heap.get?_push_of_some _ q
  have rl : RelV (.int i) vl := by
    cases pl
    exact ⟨_, rfl⟩
  have ru : RelV (.int j) vu := by
    cases pu
    exact ⟨_, rfl⟩
  exact set_sliceT I5 ha hb (Heap.IsSliceOf.new ..) rl ru h0 h1 h2 h3 fun s' I' => ⟨σ, _, I', q⟩
theorem splice_map {α : Type} {f : α → V} {xs ys : List α} {lo hi : Int} {H : Hp} {a : Addr} (h : H a = some (.lst ((xs.map f).take lo.toNat ++ ys.map f ++ (xs.map f).drop hi.toNat))) : H a = some (.lst ((spliceL xs lo hi ys).map f)) := by
  unfold spliceL
  rw [h, List.map_append, List.map_append, List.map_take, List.map_drop]
/-! ### a part of a tree changed by a call -/
theorem keepsXs {L L1 M : List Addr} {H H1 H2 : Hp} (e : Same H H1) (x : SameXs M H1 H2) (hm : ∀ b ∈ M, b ∈ L1) : ∀ b ∈ L, b ∉ L1 → ∀ o, H b = some o → H2 b = some o := fun b _ n o q => x b o (e b o q) (fun z => n (hm b z))
theorem grow_call {α : Type} {f : α → Dt} {G G2 H H1 H2 : Hp} {L L1 L2 M : List Addr} {vs : List V} {v : V} {xs : List α} {k : Int} {y : α} {a : Addr}
    (gr : ∀ G' H' y Fv L1', Same G G' → (∀ b ∈ L, b ∉ L1 → ∀ o, H b = some o → H' b = some o) → (∀ b ∈ L1', b ∈ L1 ++ Fv) → (∀ b ∈ Fv, b ∉ L) → Ow G' H' L1' v (f y) → ∃ L', (∀ b ∈ L', b ∈ L ++ Fv) ∧ OwAll G' H' L' vs ((setL xs k y).map f))
    (w : OwAll G H L vs (xs.map f)) (eG : Same G G2) (e : Same H H1) (x : SameXs M H1 H2) (hM : ∀ b ∈ M, b ∈ L1) (ha : a ∈ L1) (sub : ∀ b ∈ L2, b ∈ L1 ∨ H1 b = none) (ow : Ow G2 H2 (a :: L2) v (f y)) :
    ∃ L', (∀ b ∈ L', b ∈ L ∨ (b ∈ L2 ∧ H1 b = none)) ∧ OwAll G2 H2 L' vs ((setL xs k y).map f) := by
  have ex : ∀ b ∈ L, H1 b ≠ none := fun b hb z => by
    have h := OwAll.there w b hb
    cases q : H b with
    | none => exact h q
    | some o =>
      rw [e b o q] at z
      cases z
  have s1 : ∀ b ∈ a :: L2, b ∈ L1 ++ L2.filter (fun b => decide (b ∉ L1)) := fun b hb => by
    rcases List.mem_cons.mp hb with rfl | hb
    · exact List.mem_append_left _ ha
    · by_cases q : b ∈ L1
      · exact List.mem_append_left _ q
      · exact List.mem_append_right _ (List.mem_filter.mpr ⟨hb, decide_eq_true q⟩)
  have s2 : ∀ b ∈ L2.filter (fun b => decide (b ∉ L1)), b ∉ L := fun b hb q => by
    have := List.mem_filter.mp hb
    have n := of_decide_eq_true this.2
    rcases sub b this.1 with z | z
    · exact n z
    · exact ex b q z
  obtain ⟨L', h1, h2⟩ := gr G2 H2 y (L2.filter fun b => decide (b ∉ L1)) (a :: L2) eG (keepsXs e x hM) s1 s2 ow
  refine ⟨L', fun b hb => ?_, h2⟩
  rcases List.mem_append.mp (h1 b hb) with q | q
  · exact .inl q
  · have := List.mem_filter.mp q
    have n := of_decide_eq_true this.2
    rcases sub b this.1 with z | z
    · exact absurd z n
    · exact .inr ⟨this.1, z⟩
/-! ### zip(*rows) of data -/
def minLenG {α : Type} : List (List α) → Nat
  | [] => 0
  | [x] => x.length
  | x :: r => min x.length (minLenG r)
def colG {α : Type} (d : α) (xss : List (List α)) (i : Nat) : List α := xss.map fun r => r.getD i d
def zipG {α : Type} (d : α) (xss : List (List α)) : List (List α) := (List.range (minLenG xss)).map (colG d xss)
theorem minLenG_le {α : Type} : ∀ {xss : List (List α)} {xs : List α}, xs ∈ xss → minLenG xss ≤ xs.length
  | [x], xs, h => by
    simp at h
    subst h
    exact Nat.le_refl _
  | x :: y :: r, xs, h => by
    rcases List.mem_cons.mp h with rfl | h
    · exact Nat.min_le_left _ _
    · exact Nat.le_trans (Nat.min_le_right _ _) (minLenG_le h)
theorem minLenG_at {α : Type} : ∀ {xss : List (List α)}, xss ≠ [] → ∃ xs ∈ xss, xs.length = minLenG xss
  | [x], _ => ⟨x, List.mem_cons_self, rfl⟩
  | x :: y :: r, _ => by
    obtain ⟨z, hz, e⟩ := minLenG_at (xss := y :: r) (by simp)
    by_cases h : x.length ≤ minLenG (y :: r)
    · exact ⟨x, List.mem_cons_self, by show _ = min _ _; omega⟩
    · exact ⟨z, List.mem_cons_of_mem _ hz, by show _ = min _ _; omega⟩
theorem zipG_len {α : Type} (d : α) (xss : List (List α)) : (zipG d xss).length = minLenG xss := by simp [zipG]
theorem zipG_get {α : Type} {d : α} {xss : List (List α)} {i : Nat} (h : i < minLenG xss) : (zipG d xss)[i]? = some (colG d xss i) := by
  simp [zipG, List.getElem?_range h]
def RowsV (K : PySem.W.Frag) (H : Hp) (ls : List Addr) (vss : List (List V)) : Prop :=
  ls.length = vss.length ∧ ∀ (j : Nat) (l : Addr) (xs : List V), ls[j]? = some l → vss[j]? = some xs → SqL K H l xs
def RowsG (G : Hp) (ls : List Addr) (vss : List (List V)) : Prop :=
  ls.length = vss.length ∧ ∀ (j : Nat) (l : Addr) (xs : List V), ls[j]? = some l → vss[j]? = some xs → G l = some (.lst xs)
theorem RowsG.mono {G G' : Hp} {ls : List Addr} {vss : List (List V)} (e : Same G G') (r : RowsG G ls vss) : RowsG G' ls vss := ⟨r.1, fun j l xs h1 h2 => e _ _ (r.2 j l xs h1 h2)⟩
theorem RowsG.v {K : PySem.W.Frag} {G H : Hp} {ls : List Addr} {vss : List (List V)} (e : Same G H) (r : RowsG G ls vss) : RowsV K H ls vss := ⟨r.1, fun j l xs h1 h2 => SqL.of (e _ _ (r.2 j l xs h1 h2))⟩
theorem RowsV.all {K : PySem.W.Frag} {H : Hp} {ls : List Addr} {vss : List (List V)} (r : RowsV K H ls vss) : ∀ l ∈ ls, ∃ xs : List V, SqL K H l xs := fun l hl => by
  obtain ⟨j, hj⟩ := List.getElem?_of_mem hl
  have hjl : j < ls.length := (List.getElem?_eq_some_iff.mp hj).1
  have hjx : j < vss.length := by rw [← r.1]; exact hjl
  exact ⟨_, r.2 j l vss[j] hj (List.getElem?_eq_getElem hjx)⟩
theorem walk_zipV {K : PySem.W.Frag} {ls : List Addr} {vss : List (List V)} (hne : vss ≠ []) :
    Walk (Vz.ItzN K ls) (minLenG vss) (fun H => RowsV K H ls vss) (fun i H v H' => ∃ T, v = .ref T ∧ H T = none ∧ H' = upd H T (.tup (colG V.non vss i))) := by
  refine ⟨fun i H hi q => ?_, fun H q => ?_, fun i H x H' hi q y => ?_⟩
  · have hl : ls ≠ [] := fun z => hne (by have := q.1; rw [z] at this; exact List.length_eq_zero_iff.mp this.symm)
    refine ⟨hl, colG V.non vss i, by simp [colG, q.1], fun j l u h1 h2 => ?_⟩
    have hj : j < vss.length := by rw [← q.1]; exact (List.getElem?_eq_some_iff.mp h1).1
    have hx : vss[j]? = some vss[j] := List.getElem?_eq_getElem hj
    refine ⟨_, q.2 j l _ h1 hx, ?_⟩
    have hlt : i < vss[j].length := Nat.lt_of_lt_of_le hi (minLenG_le (List.getElem_mem hj))
    unfold colG at h2
    rw [List.getElem?_map, hx] at h2
    rw [List.getElem?_eq_getElem hlt]
    simp only [Option.map_some, Option.some.injEq] at h2
    rw [← h2, List.getD_eq_getElem?_getD, List.getElem?_eq_getElem hlt]
    rfl
  · refine ⟨q.all, ?_⟩
    obtain ⟨xs, hm, e⟩ := minLenG_at hne
    obtain ⟨j, hj⟩ := List.getElem?_of_mem hm
    have hjl : j < ls.length := by rw [q.1]; exact (List.getElem?_eq_some_iff.mp hj).1
    exact ⟨ls[j], List.getElem_mem hjl, _, q.2 j _ xs (List.getElem?_eq_getElem hjl) hj, by omega⟩
  · obtain ⟨T, us, rfl, hT, rfl, hul, hus⟩ := y
    refine ⟨T, rfl, hT, ?_⟩
    congr 2
    apply List.ext_getElem?
    intro j
    by_cases hj : j < vss.length
    · have hjl : j < ls.length := by rw [q.1]; exact hj
      have := hus j ls[j] (List.getElem?_eq_getElem hjl) _ (q.2 j _ vss[j] (List.getElem?_eq_getElem hjl) (List.getElem?_eq_getElem hj))
      rw [← this]
      have hlt : i < vss[j].length := Nat.lt_of_lt_of_le hi (minLenG_le (List.getElem_mem hj))
      unfold colG
      rw [List.getElem?_map, List.getElem?_eq_getElem hj, List.getElem?_eq_getElem hlt]
      simp only [Option.map_some, List.getD_eq_getElem?_getD, List.getElem?_eq_getElem hlt]
      rfl
    · rw [List.getElem?_eq_none (by rw [hul, q.1]; omega), List.getElem?_eq_none (by simp [colG]; omega)]
/-- rows of data: where they stand, what they hold -/
theorem rows_rpV {α : Type} {f : α → PyData} {G : Hp} : ∀ {vs : List V} {xss : List (List α)}, RpAll G vs (xss.map (encL f)) → ∃ (ls : List Addr) (vss : List (List V)), vs = ls.map V.ref ∧ RowsG G ls vss ∧ vss.length = xss.length ∧ ∀ (j : Nat) (ws : List V) (xs : List α), vss[j]? = some ws → xss[j]? = some xs → RpAll G ws (xs.map f)
  | _, [], h => by cases h; exact ⟨[], [], rfl, ⟨rfl, fun j l xs h1 _ => by simp at h1⟩, rfl, fun j ws xs h1 _ => by simp at h1⟩
  | _, xs :: r, h => by
    cases h with
    | cons r1 rr =>
      obtain ⟨ls, vss, rfl, h1, h2, h3⟩ := rows_rpV rr
      obtain ⟨a, ws, rfl, ha, hw⟩ := rp_list r1
      refine ⟨a :: ls, ws :: vss, rfl, ⟨by simp [h1.1], fun j l ys q1 q2 => ?_⟩, by simp [h2], fun j ws' ys q1 q2 => ?_⟩
      · cases j with
        | zero =>
          simp at q1 q2
          subst q1 q2
          exact ha
        | succ j => exact h1.2 j l ys (by simpa using q1) (by simpa using q2)
      · cases j with
        | zero =>
          simp at q1 q2
          subst q1 q2
          exact hw
        | succ j => exact h3 j ws' ys (by simpa using q1) (by simpa using q2)
theorem minV {α : Type} {f : α → PyData} {G : Hp} : ∀ {vss : List (List V)} {xss : List (List α)}, vss.length = xss.length → (∀ (j : Nat) (ws : List V) (xs : List α), vss[j]? = some ws → xss[j]? = some xs → RpAll G ws (xs.map f)) → minLenG vss = minLenG xss
  | [], [], _, _ => rfl
  | [ws], [xs], _, h => by
    have := (h 0 ws xs rfl rfl).len
    rw [List.length_map] at this
    exact this
  | ws :: w2 :: vss, xs :: x2 :: xss, hl, h => by
    have e := (h 0 ws xs rfl rfl).len
    rw [List.length_map] at e
    have i := minV (f := f) (G := G) (vss := w2 :: vss) (xss := x2 :: xss) (by simpa using hl) fun j a b h1 h2 => h (j + 1) a b (by simpa using h1) (by simpa using h2)
    show min ws.length (minLenG (w2 :: vss)) = min xs.length (minLenG (x2 :: xss))
    rw [e, i]
theorem colV {α : Type} {f : α → PyData} {d : α} {G : Hp} {i : Nat} : ∀ {vss : List (List V)} {xss : List (List α)}, vss.length = xss.length → (∀ (j : Nat) (ws : List V) (xs : List α), vss[j]? = some ws → xss[j]? = some xs → RpAll G ws (xs.map f)) → (∀ xs ∈ xss, i < xs.length) → RpAll G (colG V.non vss i) ((colG d xss i).map f)
  | [], [], _, _, _ => .nil
  | ws :: vss, xs :: xss, hl, h, hi => by
    have r := h 0 ws xs rfl rfl
    have e := r.len
    rw [List.length_map] at e
    have hx := hi xs List.mem_cons_self
    have hw : i < ws.length := by omega
    obtain ⟨y, hy, rp⟩ := RpAll.get r (List.getElem?_eq_getElem hw)
    have t := colV (f := f) (d := d) (G := G) (i := i) (vss := vss) (xss := xss) (by simpa using hl) (fun j a b h1 h2 => h (j + 1) a b (by simpa using h1) (by simpa using h2)) fun ys hys => hi ys (List.mem_cons_of_mem _ hys)
    refine .cons ?_ t
    show Rp G (ws.getD i V.non) (f (xs.getD i d))
    rw [List.getD_eq_getElem?_getD, List.getElem?_eq_getElem hw, List.getD_eq_getElem?_getD, hy]
    exact rp
theorem colV_at {α : Type} {f : α → PyData} {d : α} {G : Hp} {i : Nat} {vss : List (List V)} {xss : List (List α)} (hl : vss.length = xss.length) (h : ∀ (j : Nat) (ws : List V) (xs : List α), vss[j]? = some ws → xss[j]? = some xs → RpAll G ws (xs.map f)) (hi : i < minLenG vss) : RpAll G (colG V.non vss i) ((colG d xss i).map f) :=
  colV hl h fun xs hx => Nat.lt_of_lt_of_le (by rw [minV hl h] at hi; exact hi) (minLenG_le hx)
theorem lc_zipV {K : PySem.W.Frag} {ls : List Addr} {vss : List (List V)} {g : TG} {tt : TT} {te : TE} {vs : List Nat} {σ : L2.St} {H1 : Hp} {D : Addr} {Qd : Hp → Prop} (hne : vss ≠ []) (Pv : Nat → Hp → Prop) (h0 : Pv 0 (upd H1 D (.lst []))) (hq : ∀ i H, i ≤ minLenG vss → Pv i H → RowsV K H ls vss)
    (hs : ∀ (i : Nat) (T : Addr) (H : Hp), i < minLenG vss → H T = none → Pv i H → g (.ref T) (wipe σ vs) (upd H T (.tup (colG V.non vss i))) fun σ2 H2 => wipe σ2 vs = wipe σ vs ∧ tt σ2 H2 fun b H3 =>
      if b = true then te σ2 H3 fun y H4 => ∃ acc, H4 D = some (.lst acc) ∧ acc.length < sizeLine ∧ Pv (i + 1) (upd H4 D (.lst (acc ++ [y]))) else Pv (i + 1) H3) (hd : ∀ H, Pv (minLenG vss) H → Qd H) :
    ∃ W : Nat → Nat → Hp → Prop, (∃ m, W 0 m (upd H1 D (.lst []))) ∧ ∀ i m H, W i m H →
      ((Vz.ItzN K ls).stop i H ∧ Qd H) ∨ ((Vz.ItzN K ls).go i H ∧ ∃ Nx : Hp → Prop, (∀ H', Nx H' → ∃ m', m' < m ∧ W (i + 1) m' H') ∧ ∀ x H', (Vz.ItzN K ls).yld i H x H' → g x (wipe σ vs) H' fun σ2 H2 => wipe σ2 vs = wipe σ vs ∧ tt σ2 H2 fun b H3 =>
        if b = true then te σ2 H3 fun y H4 => ∃ acc, H4 D = some (.lst acc) ∧ acc.length < sizeLine ∧ Nx (upd H4 D (.lst (acc ++ [y]))) else Nx H3) := by
  refine lc_it (walk_zipV hne) Pv h0 hq (fun i x H H' hi p y => ?_) hd
  obtain ⟨T, rfl, hT, rfl⟩ := y
  exact hs i T H hi hT p
theorem slcI_hi {xs : List Int} {hi : Int} (g : hi ≤ ((xs.length : Nat) : Int)) : hi ≤ (((xs.map V.int).length : Nat) : Int) := by
  rw [List.length_map]
  exact g
theorem slcI_len {xs ys : List Int} (g : xs.length + ys.length ≤ 1000000) : (xs.map V.int).length + (ys.map V.int).length ≤ sizeLine := by
  rw [List.length_map, List.length_map]
  exact Nat.le_trans g (by unfold sizeLine; decide)
theorem Ow.atInts {G H : Hp} {b : Addr} {L : List Addr} {xs : List Int} (w : Ow G H L (.ref b) (oL oI xs)) : L = [b] ∧ H b = some (.lst (xs.map V.int)) := by
  obtain ⟨a, e, rfl, h⟩ := w.toInts
  cases e
  exact ⟨rfl, h⟩
theorem samex_of {m : Addr} {H H1 H2 : Hp} (e : Same H H1) (x : SameX m H1 H2) : SameX m H H2 := fun b o q n => x b o (e b o q) n
end Vx
/-! # fourth part: reckoning with functions that may refuse -/
namespace Vx
open PySem PySem.Spec PyProof.Rows L2
section
variable {α β σ ρ τ : Type}
theorem bind_ok (a : α) (f : α → Rx β) : (Rx.ok a).bind f = f a := rfl
theorem bind_er (e : Nat) (f : α → Rx β) : (Rx.er e : Rx α).bind f = .er e := rfl
theorem grd_pos {p : Prop} {dp : Decidable p} {m : Rx α} (h : p) : grd p m = m := if_pos h
theorem bnd_eq (a : α) (f : α → Rx β) : bnd a f = f a := rfl
theorem noEr_ok (a : α) : noEr (.ok a : Rx α) = .ok a := rfl
theorem tryR_ok {cs : List Nat} (a : α) (f : α → Rx β) (g : Nat → Rx β) : tryR (.ok a) cs f g = f a := rfl
theorem tryR_er {cs : List Nat} {e : Nat} (h : e ∈ cs) (f : α → Rx β) (g : Nat → Rx β) : tryR (.er e) cs f g = g e := if_pos h
theorem aft_go (s : σ) (kr : ρ → Rx τ) (k : σ → Rx τ) : (Lp.go s : Lp σ ρ).aft kr k = k s := rfl
theorem aft_rt (r : ρ) (kr : ρ → Rx τ) (k : σ → Rx τ) : (Lp.rt r : Lp σ ρ).aft kr k = kr r := rfl
/-- gives a value of which P holds -/
def Gv (m : Rx α) (P : α → Prop) : Prop := ∃ v, m = .ok v ∧ P v
theorem Gv.ok {a : α} {P : α → Prop} (h : P a) : Gv (.ok a) P := ⟨a, rfl, h⟩
theorem Gv.of_eq {m : Rx α} {a : α} {P : α → Prop} (e : m = .ok a) (h : P a) : Gv m P := ⟨a, e, h⟩
theorem Gv.bind {m : Rx α} {f : α → Rx β} {P : α → Prop} {Q : β → Prop} (h : Gv m P) (k : ∀ v, P v → Gv (f v) Q) : Gv (m.bind f) Q := by
  obtain ⟨v, rfl, p⟩ := h
  exact k v p
theorem Gv.bind_eq {m : Rx α} {f : α → Rx β} {a : α} {Q : β → Prop} (h : m = .ok a) (k : Gv (f a) Q) : Gv (m.bind f) Q := by
  subst h
  exact k
theorem Gv.grd {p : Prop} {dp : Decidable p} {m : Rx α} {Q : α → Prop} (h : p) (k : Gv m Q) : Gv (Vx.grd p m) Q := by
  rw [grd_pos h]
  exact k
theorem Gv.bnd {a : α} {f : α → Rx β} {Q : β → Prop} (k : ∀ x, x = a → Gv (f x) Q) : Gv (Vx.bnd a f) Q := k a rfl
theorem Gv.ite {p : Prop} {dp : Decidable p} {a b : Rx α} {Q : α → Prop} (h1 : p → Gv a Q) (h2 : ¬ p → Gv b Q) : Gv (if p then a else b) Q := by
  split
  · exact h1 ‹_›
  · exact h2 ‹_›
theorem Gv.pos {p : Prop} {dp : Decidable p} {a b : Rx α} {Q : α → Prop} (h : p) (k : Gv a Q) : Gv (if p then a else b) Q := by rwa [if_pos h]
theorem Gv.neg {p : Prop} {dp : Decidable p} {a b : Rx α} {Q : α → Prop} (h : ¬ p) (k : Gv b Q) : Gv (if p then a else b) Q := by rwa [if_neg h]
theorem Gv.imp {m : Rx α} {P Q : α → Prop} (h : Gv m P) (k : ∀ v, P v → Q v) : Gv m Q := by
  obtain ⟨v, e, p⟩ := h
  exact ⟨v, e, k v p⟩
theorem Gv.noEr {m : Rx α} {P : α → Prop} (h : Gv m P) : Gv (Vx.noEr m) P := by
  obtain ⟨v, rfl, p⟩ := h
  exact ⟨v, rfl, p⟩
theorem Gv.tryOk {m : Rx α} {cs : List Nat} {f : α → Rx β} {g : Nat → Rx β} {P : α → Prop} {Q : β → Prop} (h : Gv m P) (k : ∀ v, P v → Gv (f v) Q) : Gv (tryR m cs f g) Q := by
  obtain ⟨v, rfl, p⟩ := h
  exact k v p
theorem Gv.tryEr {m : Rx α} {cs : List Nat} {e : Nat} {f : α → Rx β} {g : Nat → Rx β} {Q : β → Prop} (h : m = .er e) (hm : e ∈ cs) (k : Gv (g e) Q) : Gv (tryR m cs f g) Q := by
  subst h
  rw [tryR_er hm]
  exact k
theorem Gv.get {m : Rx α} {a : α} (h : Gv m (fun v => v = a)) : m = .ok a := by
  obtain ⟨v, e, rfl⟩ := h
  exact e
theorem Gv.eq {m : Rx α} {P : α → Prop} (h : Gv m P) : ∃ v, m = .ok v ∧ P v := h
/-- a loop that keeps P -/
theorem Gv.forS {P : Nat → σ → Prop} {xs : List α} {s : σ} {f : σ → α → Rx σ} (h0 : P 0 s) (hs : ∀ i x s, xs[i]? = some x → P i s → Gv (f s x) (P (i + 1))) : Gv (Vx.forS xs s f) (P xs.length) := by
  induction xs generalizing s P with
  | nil => exact .ok h0
  | cons x r ih =>
    refine Gv.bind (hs 0 x s rfl h0) fun s' p => ?_
    exact ih (P := fun i => P (i + 1)) p fun i y s hy q => hs (i + 1) y s (by simpa using hy) q
theorem Gv.forR {P : Nat → σ → Prop} {xs : List α} {s : σ} {f : σ → α → Rx (Lp σ ρ)} (h0 : P 0 s) (hs : ∀ i x s, xs[i]? = some x → P i s → Gv (f s x) (fun l => ∃ s', l = .go s' ∧ P (i + 1) s')) : Gv (Vx.forR xs s f) (fun l => ∃ s', l = .go s' ∧ P xs.length s') := by
  induction xs generalizing s P with
  | nil => exact .ok ⟨s, rfl, h0⟩
  | cons x r ih =>
    refine Gv.bind (hs 0 x s rfl h0) ?_
    rintro _ ⟨s', rfl, p⟩
    exact ih (P := fun i => P (i + 1)) p fun i y s hy q => hs (i + 1) y s (by simpa using hy) q
/-- a loop that carries nothing -/
theorem forR_unit {xs : List α} {f : Unit → α → Rx (Lp Unit ρ)} (h : ∀ x ∈ xs, f () x = .ok (.go ())) : Vx.forR xs () f = .ok (.go ()) := by
  induction xs with
  | nil => rfl
  | cons x r ih =>
    show (f () x).bind _ = _
    rw [h x List.mem_cons_self]
    exact ih fun y hy => h y (List.mem_cons_of_mem _ hy)
theorem forS_pure {xs : List α} {s : σ} {f : σ → α → Rx σ} {g : σ → α → σ} (h : ∀ s x, x ∈ xs → f s x = .ok (g s x)) : Vx.forS xs s f = .ok (xs.foldl g s) := by
  induction xs generalizing s with
  | nil => rfl
  | cons x r ih =>
    show (f s x).bind _ = _
    rw [h s x List.mem_cons_self]
    exact ih fun s y hy => h s y (List.mem_cons_of_mem _ hy)
theorem mapA_pure {xs : List α} {acc : List β} {f : α → Rx β} {g : α → β} (h : ∀ x ∈ xs, f x = .ok (g x)) (hl : acc.length + xs.length ≤ 1000000) : mapA xs acc f = .ok (acc ++ xs.map g) := by
  induction xs generalizing acc with
  | nil => simp [mapA]
  | cons x r ih =>
    rw [List.length_cons] at hl
    unfold mapA
    rw [grd_pos (by omega), h x List.mem_cons_self, bind_ok, ih (fun y hy => h y (List.mem_cons_of_mem _ hy)) (by rw [List.length_append, List.length_cons, List.length_nil]; omega)]
    simp
theorem mapA_pure0 {xs : List α} {f : α → Rx β} {g : α → β} (h : ∀ x ∈ xs, f x = .ok (g x)) (hl : xs.length ≤ 1000000) : mapA xs [] f = .ok (xs.map g) := by
  rw [mapA_pure h (by simpa using hl)]
  rfl
theorem mapF_pure {xs : List α} {acc : List β} {f : α → Rx (Option β)} {g : α → Option β} (h : ∀ x ∈ xs, f x = .ok (g x)) (hl : acc.length + xs.length ≤ 1000000) : mapF xs acc f = .ok (acc ++ xs.filterMap g) := by
  induction xs generalizing acc with
  | nil => simp [mapF]
  | cons x r ih =>
    rw [List.length_cons] at hl
    unfold mapF
    rw [grd_pos (by omega), h x List.mem_cons_self, bind_ok]
    cases e : g x with
    | none =>
      show mapF r acc f = _
      rw [ih (fun y hy => h y (List.mem_cons_of_mem _ hy)) (by omega), List.filterMap_cons, e]
    | some z =>
      show mapF r (acc ++ [z]) f = _
      rw [ih (fun y hy => h y (List.mem_cons_of_mem _ hy)) (by rw [List.length_append, List.length_cons, List.length_nil]; omega), List.filterMap_cons, e]
      simp
/-- a while that ends: m falls -/
theorem Gv.whileR {P : σ → Prop} {R : σ → Prop} (m : σ → Nat) {f : σ → Rx (Lp σ ρ)} (hs : ∀ s, P s → Gv (f s) (fun l => (∃ s', l = .go s' ∧ P s' ∧ m s' < m s) ∨ ∃ s', l = .bk s' ∧ R s')) : ∀ {n : Nat} {s : σ}, P s → m s < n → Gv (Vx.whileR n s f) (fun l => ∃ s', l = .go s' ∧ R s') := by
  intro n
  induction n with
  | zero => intro s _ h; exact absurd h (Nat.not_lt_zero _)
  | succ n ih =>
    intro s p h
    refine Gv.bind (hs s p) ?_
    rintro _ (⟨s', rfl, p', l⟩ | ⟨s', rfl, r⟩)
    · exact ih p' (by omega)
    · exact .ok ⟨s', rfl, r⟩
end
/-- a loop that may return -/
theorem Gv.forRR {α σ ρ : Type} {P : Nat → σ → Prop} {Q : ρ → Prop} {xs : List α} {s : σ} {f : σ → α → Rx (Lp σ ρ)} (h0 : P 0 s) (hs : ∀ i x s, xs[i]? = some x → P i s → Gv (f s x) (fun l => (∃ s', l = .go s' ∧ P (i + 1) s') ∨ ∃ r, l = .rt r ∧ Q r)) : Gv (Vx.forR xs s f) (fun l => (∃ s', l = .go s' ∧ P xs.length s') ∨ ∃ r, l = .rt r ∧ Q r) := by
  induction xs generalizing s P with
  | nil => exact .ok (.inl ⟨s, rfl, h0⟩)
  | cons x r ih =>
    refine Gv.bind (hs 0 x s rfl h0) ?_
    rintro _ (⟨s', rfl, p⟩ | ⟨r, rfl, q⟩)
    · exact ih (P := fun i => P (i + 1)) p fun i y s hy q => hs (i + 1) y s (by simpa using hy) q
    · exact .ok (.inr ⟨r, rfl, q⟩)
theorem rng_mem {lo x : Int} {n : Nat} (h : x ∈ rng lo n) : lo ≤ x ∧ x < lo + n := by
  unfold rng at h
  obtain ⟨j, hj, rfl⟩ := List.mem_map.mp h
  have := List.mem_range.mp hj
  omega
theorem rng_at {lo x : Int} {n i : Nat} (h : (rng lo n)[i]? = some x) : x = lo + i ∧ i < n := by
  have hl := get_len h
  rw [rng_len] at hl
  rw [rng_get hl] at h
  exact ⟨(Option.some.inj h).symm, hl⟩
end Vx
namespace Vx
open PySem PySem.Spec PyProof.Rows L2
/-! ### the head's facts -/
abbrev Frg : Type := PySem.W.Frag
abbrev FaK : Type := Frg → Bool
abbrev AlK : Type := Bool × List He.FnW × List (Option (List (Option (Str × Int))))
def obsK (fa : List (List FaK)) (fn : List He5.DefA) (ts : List He.Tab) (K : Frg) : AlK :=
  ((fa.all fun l => l.all fun f => f K) && fn.all fun d => d.ok K, fn.map fun d => He5.fnA K (d.at_ K), ts.map fun t => He.dicW K (t.1 K))
def valK (fn : List He5.DefA) (ts : List He.Tab) (w : World) : AlK := (true, fn.map He5.DefA.val, ts.map fun t => some (He.keysIn w.params t.2))
def SaysK (fa : List (List FaK)) (fn : List He5.DefA) (ts : List He.Tab) (w : World) (K : Frg) : Prop := obsK fa fn ts K = valK fn ts w
/-- what the names reach in n steps; what has been met is a number's bits -/
def grow1 : List Addr → Nat → List Addr → Nat × List Addr
  | [], m, nw => (m, nw)
  | a :: r, m, nw => match Nat.beq (Nat.land (Nat.shiftRight m a) 1) 1 with
    | true => grow1 r m nw
    | false => HandSHeadRun.frNat (Nat.lor m (Nat.shiftLeft 1 a)) fun m' => grow1 r m' (a :: nw)
def refsG (g : Addr → Option Obj) (a : Addr) : List Addr := match g a with
  | some o => He.refsD o
  | none => []
def asB (g : Addr → Option Obj) : Nat → Nat → List Addr → List Addr
  | 0, _, fr => fr
  | n + 1, m, fr => match grow1 (fr.flatMap (refsG g)) m [] with
    | (m', nw) => fr ++ asB g n m' nw
def asK (g : Addr → Option Obj) (n : Nat) : List Addr := asB g n (Nat.shiftLeft 1 mainGlobals) [mainGlobals]
def obsKG (n : Nat) (fa : List (List FaK)) (fn : List He5.DefA) (ts : List He.Tab) (g : Addr → Option Obj) : AlK := obsK fa fn ts (He.frG g (asK g n))
def hookK (n : Nat) (fa : List (List FaK)) (fn : List He5.DefA) (ts : List He.Tab) : PySem.W.Hook where
  α := AlK
  obs := fun s => obsKG n fa fn ts s.heap.get?
  val := fun w => valK fn ts w
  says := fun w h => ∃ K : Frg, K.In h ∧ SaysK fa fn ts w K
  of := fun _ _ e => ⟨_, He.frG_in, e⟩
  keeps := fun _ _ _ ⟨K, hK, c⟩ k => ⟨K, PySem.W.Frag.In.keeps hK k, c⟩
theorem obsKG_eq {n : Nat} {fa : List (List FaK)} {fn : List He5.DefA} {ts : List He.Tab} {g : Addr → Option Obj} {s : Shared} (h : ∀ a, g a = s.heap.get? a) : obsKG n fa fn ts g = (hookK n fa fn ts).obs s := by
  have e : g = s.heap.get? := funext h
  rw [e] <;> rfl
section
variable {fa : List (List FaK)} {fn : List He5.DefA} {ts : List He.Tab} {w : World} {K : Frg}
theorem SaysK.fact (c : SaysK fa fn ts w K) (i j : Nat) {l : List FaK} {f : FaK} (hl : fa[i]? = some l := by rfl) (h : l[j]? = some f := by rfl) : f K = true := by
  have c1 := (He.ba (show ((fa.all fun l => l.all fun f => f K) && fn.all fun d => d.ok K) = true from congrArg (fun z : AlK => z.1) c)).1
  have c2 := List.all_eq_true.mp c1 l (List.mem_of_getElem? hl)
  exact List.all_eq_true.mp c2 f (List.mem_of_getElem? h)
theorem SaysK.def_ (c : SaysK fa fn ts w K) (i : Nat) {d : He5.DefA} (h : fn[i]? = some d := by rfl) : ∃ fd, FunD K d.name d.qual d.params d.body d.scope (d.dvs K) (d.kws K) (d.at_ K) fd := by
  have c2 := (He.ba (show ((fa.all fun l => l.all fun f => f K) && fn.all fun d => d.ok K) = true from congrArg (fun z : AlK => z.1) c)).2
  have e : fn.map (fun d => He5.fnA K (d.at_ K)) = fn.map He5.DefA.val := congrArg (fun z : AlK => z.2.1) c
  have e2 : (fn.map fun d => He5.fnA K (d.at_ K))[i]? = (fn.map He5.DefA.val)[i]? := by rw [e]
  rw [List.getElem?_map, List.getElem?_map, h] at e2
  exact He5.DefA.funD (Option.some.inj e2) (List.all_eq_true.mp c2 d (List.mem_of_getElem? h))
theorem SaysK.tab (c : SaysK fa fn ts w K) (i : Nat) {t : He.Tab} (h : ts[i]? = some t := by rfl) : He.dicW K (t.1 K) = some (He.keysIn w.params t.2) := by
  have e : ts.map (fun t => He.dicW K (t.1 K)) = ts.map fun t => some (He.keysIn w.params t.2) := congrArg (fun z : AlK => z.2.2) c
  have e2 : (ts.map fun t => He.dicW K (t.1 K))[i]? = (ts.map fun t => some (He.keysIn w.params t.2))[i]? := by rw [e]
  rw [List.getElem?_map, List.getElem?_map, h] at e2
  exact Option.some.inj e2
end
/-! ### facts -/
/-- a def's keyword default, if it is an object -/
def kdA (f : Frg → Addr) (x : Str) (K : Frg) : Addr := match K.lookup (f K) with
  | some ⟨_, _, .func fd, _⟩ => (match fd.kwdefaults with
    | .ref D => (match PySem.W.nsIn K D x with
      | some (some (.ref a)) => a
      | _ => 0)
    | _ => 0)
  | _ => 0
/-- a property's def -/
def prA (C m : Str) (K : Frg) : Addr := match PySem.W.recIn K (He.ma K (He.ga K C) m) "property" with
  | some (.ref f :: _) => f
  | _ => 0
def prpB (C m : Str) : FaK := fun K => He.eqO (PySem.W.findIn K (.ref (He.ga K C)) m) (some (some (.ref (He.ma K (He.ga K C) m)))) &&
  (He.eqO (PySem.W.specialIn K (.ref (He.ma K (He.ga K C) m)) "__get__") (some (some (.builtin "property.__get__"))) &&
  (decide (PySem.W.takesIn K (.ref (He.ma K (He.ga K C) m)) = some true) && (match PySem.W.recIn K (He.ma K (He.ga K C) m) "property" with
    | some (.ref _ :: _) => true
    | _ => false)))
theorem prpB_ok {K : Frg} {C m : Str} (h : prpB C m K = true) : PySem.W.findIn K (.ref (He.ga K C)) m = some (some (.ref (He.ma K (He.ga K C) m))) ∧ PySem.W.specialIn K (.ref (He.ma K (He.ga K C) m)) "__get__" = some (some (.builtin "property.__get__")) ∧
    PySem.W.takesIn K (.ref (He.ma K (He.ga K C) m)) = some true ∧ ∃ rs, PySem.W.recIn K (He.ma K (He.ga K C) m) "property" = some (.ref (prA C m K) :: rs) := by
  obtain ⟨h1, h⟩ := He.ba h
  obtain ⟨h2, h⟩ := He.ba h
  obtain ⟨h3, h4⟩ := He.ba h
  refine ⟨He.eqO_ok h1, He.eqO_ok h2, of_decide_eq_true h3, ?_⟩
  unfold prA
  split at h4
  · rename_i f r e
    exact ⟨r, by rw [e]⟩
  · cases h4
def isiB (C : Str) : FaK := fun K => He.eqO (PySem.W.findIn K (.ref (He.ga K C)) "__class__") (some (some (.builtin "object.__class__"))) && (He.eqO (PySem.W.specialIn K (.builtin "object.__class__") "__get__") (some (some (.builtin "getset_descriptor.__get__"))) &&
  (decide (PySem.W.takesIn K (.builtin "object.__class__") = some true) && decide (PySem.W.mroIn K (He.ga K C) (.type "object") = some true)))
theorem isiB_ok {K : Frg} {C : Str} (h : isiB C K = true) : IsiC K (He.ga K C) := by
  obtain ⟨h1, h⟩ := He.ba h
  obtain ⟨h2, h⟩ := He.ba h
  obtain ⟨h3, h4⟩ := He.ba h
  exact ⟨He.eqO_ok h1, He.eqO_ok h2, of_decide_eq_true h3, of_decide_eq_true h4⟩
def excCB (C : Str) : FaK := fun K => He.eqO (PySem.W.findIn K (.ref (He.ga K C)) "__getattribute__") (some (some (.builtin "BaseException.__getattribute__"))) && (He.eqO (PySem.W.findIn K (.ref (He.ga K C)) "__getattr__") (some none) &&
  (decide (PySem.W.subIn K (.ref (He.ga K C)) (.type "BaseException") = some true) && (PySem.W.hasDictIn K (He.ga K C) && isiB C K)))
theorem excCB_ok {K : Frg} {C : Str} (h : excCB C K = true) : ExcC K (He.ga K C) := by
  obtain ⟨h1, h⟩ := He.ba h
  obtain ⟨h2, h⟩ := He.ba h
  obtain ⟨h3, h⟩ := He.ba h
  obtain ⟨h4, h⟩ := He.ba h
  obtain ⟨h5, h⟩ := He.ba h
  obtain ⟨h6, h⟩ := He.ba h
  obtain ⟨h7, h8⟩ := He.ba h
  exact ⟨He.eqO_ok h1, He.eqO_ok h2, of_decide_eq_true h3, h4, He.eqO_ok h5, He.eqO_ok h6, of_decide_eq_true h7, of_decide_eq_true h8⟩
def kitFB (D : Str) (c : Frg → Value) (b : Bool) : FaK := fun K => decide (PySem.W.kitOne K (.ref (He.ga K D)) (c K) = some b)
theorem kitFB_ok {K : Frg} {D : Str} {c : Frg → Value} {b : Bool} (h : kitFB D c b K = true) : PySem.W.kitOne K (.ref (He.ga K D)) (c K) = some b := of_decide_eq_true h
/-- a tuple of these -/
def tupK (a : Frg → Addr) (vs : List He.Dv) : FaK := fun K => match K.lookup (a K) with
  | some ⟨.type c, none, .seq its _, _⟩ => decide (c = "tuple") && (decide (its.size ≤ sizeLine) && He.relAll (vs.map (He.Dv.v K)) its.toList)
  | _ => false
theorem tupK_at {K : Frg} {a : Frg → Addr} {vs : List He.Dv} (h : tupK a vs K = true) : ∃ its n sl, K.lookup (a K) = some ⟨.type "tuple", none, .seq its n, sl⟩ ∧ its.size ≤ sizeLine ∧ Vals (vs.map (He.Dv.v K)) its.toList := by
  unfold tupK at h
  cases q : K.lookup (a K) with
  | none =>
    rw [q] at h
    cases h
  | some o =>
    obtain ⟨oc, od, dt, osl⟩ := o
    rw [q] at h
    cases oc with
    | type c =>
      cases od with
      | none =>
        cases dt with
        | seq its n =>
          obtain ⟨h1, h2⟩ := He.ba (show (decide (c = "tuple") && (decide (its.size ≤ sizeLine) && He.relAll (vs.map (He.Dv.v K)) its.toList)) = true from h)
          obtain ⟨h3, h4⟩ := He.ba h2
          refine ⟨its, n, osl, ?_, of_decide_eq_true h3, He.relAll_ok h4⟩
          rw [of_decide_eq_true h1]
        | _ => cases h
      | some d => cases dt <;> cases h
    | _ => cases od <;> cases dt <;> cases h
theorem tupK_ok {K : Frg} {a : Frg → Addr} {vs : List He.Dv} (h : tupK a vs K = true) (H : Hp) : SqT K H (a K) (vs.map (He.Dv.v K)) := by
  obtain ⟨its, n, sl, e, h1, h2⟩ := tupK_at h
  exact .inr ⟨_, its, n, e, rfl, rfl, h1, h2⟩
theorem tupK_cls {K : Frg} {a : Frg → Addr} {vs : List He.Dv} (h : tupK a vs K = true) : ∃ o, K.lookup (a K) = some o ∧ o.cls = .type "tuple" ∧ o.dict = none := by
  obtain ⟨its, n, sl, e, h1, h2⟩ := tupK_at h
  exact ⟨_, e, rfl, rfl⟩
/-- the i-th item of a tuple -/
def itK (a : Frg → Addr) (i : Nat) (K : Frg) : Addr := match K.lookup (a K) with
  | some ⟨_, _, .seq its _, _⟩ => (match its.toList[i]? with
    | some (.ref b) => b
    | _ => 0)
  | _ => 0
/-- the value of a key of text -/
def ikK (a : Frg → Addr) (k : Str) (K : Frg) : Addr := match PySem.W.nsIn K (a K) k with
  | some (some (.ref b)) => b
  | _ => 0
/-! ### dicts of ints -/
def eiB : List (Int × Int) → List DictEntry → Bool
  | [], [] => true
  | (k, v) :: r, ⟨h, .int k2 _, .int v2 _⟩ :: es => decide (h = hashInt k) && (decide (k2 = k) && (decide (v2 = v) && eiB r es))
  | _, _ => false
theorem eiB_ok : ∀ {kvs : List (Int × Int)} {es : List DictEntry}, eiB kvs es = true → EI kvs es
  | [], [], _ => .nil
  | [], _ :: _, h => by cases h
  | _ :: _, [], h => by cases h
  | (k, v) :: r, ⟨h0, kk, vv⟩ :: es, h => by
    cases kk with
    | int k2 t =>
      cases vv with
      | int v2 u =>
        obtain ⟨h1, h⟩ := He.ba (show (decide (h0 = hashInt k) && (decide (k2 = k) && (decide (v2 = v) && eiB r es))) = true from h)
        obtain ⟨h2, h⟩ := He.ba h
        obtain ⟨h3, h⟩ := He.ba h
        rw [of_decide_eq_true h1, of_decide_eq_true h2, of_decide_eq_true h3]
        exact .cons (eiB_ok h)
      | _ => cases h
    | _ => cases vv <;> cases h
def kdiB (a : Frg → Addr) (kvs : List (Int × Int)) : FaK := fun K => match K.lookup (a K) with
  | some ⟨.type c, none, .dict es _, sl⟩ => decide (c = "dict") && (sl.isEmpty && (!(a K == sysModules) && eiB kvs es.toList))
  | _ => false
theorem kdiB_ok {K : Frg} {a : Frg → Addr} {kvs : List (Int × Int)} (h : kdiB a kvs K = true) : KDI K (a K) kvs := by
  unfold kdiB at h
  cases q : K.lookup (a K) with
  | none =>
    rw [q] at h
    cases h
  | some o =>
    obtain ⟨oc, od, dt, osl⟩ := o
    rw [q] at h
    cases oc with
    | type c =>
      cases od with
      | none =>
        cases dt with
        | dict es n =>
          obtain ⟨h1, h2⟩ := He.ba (show (decide (c = "dict") && (osl.isEmpty && (!(a K == sysModules) && eiB kvs es.toList))) = true from h)
          obtain ⟨h3, h4⟩ := He.ba h2
          obtain ⟨h5, h6⟩ := He.ba h4
          refine ⟨es, n, ?_, ?_, eiB_ok h6⟩
          · rw [q, of_decide_eq_true h1, Array.isEmpty_iff.mp h3]
          · cases y : a K == sysModules with
            | false => rfl
            | true =>
              rw [y] at h5
              cases h5
        | _ => cases h
      | some b => cases dt <;> cases h
    | _ => cases od <;> cases dt <;> cases h
/-! ### dicts with text keys: the values -/
def valsL (K : Frg) (vs : List He.Dv) (es : List DictEntry) : Bool := He.relAll (vs.map (He.Dv.v K)) (es.map (·.val))
def dvB (a : Frg → Addr) (vs : List He.Dv) : FaK := fun K => match K.lookup (a K) with
  | some ⟨_, _, .dict es _, _⟩ => valsL K vs es.toList
  | _ => false
theorem dic_of {K : Frg} {P : Params} {a : Frg → Addr} {ks : List Str} {vs : List He.Dv} (h : He.dicW K (a K) = some (He.keysIn P ks)) (hv : dvB a vs K = true) :
    ∃ es n, K.lookup (a K) = some ⟨.type "dict", none, .dict es n, #[]⟩ ∧ es.toList.map He.keyOf = He.keysIn P ks ∧ Vals (vs.map (He.Dv.v K)) (es.toList.map (·.val)) := by
  unfold He.dicW at h
  unfold dvB at hv
  cases q : K.lookup (a K) with
  | none =>
    rw [q] at h
    cases h
  | some o =>
    obtain ⟨oc, od, dt, osl⟩ := o
    rw [q] at h hv
    cases oc with
    | type c =>
      cases od with
      | none =>
        cases dt with
        | dict es n =>
          have h1 : (match decide (c = "dict") && (osl.isEmpty && !(a K == sysModules)) with
            | true => some (es.toList.map He.keyOf)
            | false => none) = some (He.keysIn P ks) := h
          cases z : decide (c = "dict") && (osl.isEmpty && !(a K == sysModules)) with
          | false =>
            rw [z] at h1
            cases h1
          | true =>
            rw [z] at h1
            obtain ⟨z1, z2⟩ := He.ba z
            obtain ⟨z3, z4⟩ := He.ba z2
            refine ⟨es, n, ?_, Option.some.inj h1, He.relAll_ok hv⟩
            rw [of_decide_eq_true z1, Array.isEmpty_iff.mp z3]
        | _ => cases h
      | some b => cases dt <;> cases h
    | _ => cases od <;> cases dt <;> cases h
theorem fnD_ex {K : Frg} {x q : Str} {args : Arguments} {body : List Stmt} {sc : Scope} {kws : List (Str × V)} {f : Addr} {fd : FuncData} (F : FunD K x q args body sc [] kws f fd) : ∃ (kV doc : Value) (pm : Value) (an : Option Addr) (cdv ct : Value), fd = PySem.W.fnOf x q args body sc .none kV doc pm an cdv ct := by
  obtain ⟨oc, od, dV, kV, doc, pm, an, cdv, ct, osl, e, l, c, hd, _⟩ := F.ex
  rcases hd with ⟨_, e2⟩ | ⟨e2, _⟩
  · subst e2
    exact ⟨_, _, _, _, _, _, e⟩
  · exact absurd rfl e2
/-! ### positional defaults -/
theorem fnD_exP {K : PySem.W.Frag} {x q : Str} {args : Arguments} {body : List Stmt} {sc : Scope} {dvs : List V} {kws : List (Str × V)} {f : Addr} {fd : FuncData} (F : FunD K x q args body sc dvs kws f fd) : ∃ (dV kV doc : Value) (pm : Value) (an : Option Addr) (cdv ct : Value), fd = PySem.W.fnOf x q args body sc dV kV doc pm an cdv ct := by
  obtain ⟨oc, od, dV, kV, doc, pm, an, cdv, ct, osl, e, l, c, hd, _⟩ := F.ex
  exact ⟨_, _, _, _, _, _, _, e⟩
theorem Bnd.dfl {K : PySem.W.Frag} {x qual : Str} {params : Arguments} {body : List Stmt} {scope : Scope} {dvs : List V} {kws : List (Str × V)} {f : Addr} {fd : FuncData} {ps : List Str} (F : FunD K x qual params body scope dvs kws f fd) (n j : Nat) (hd : dvs ≠ [])
    (h : ∀ (T : Addr) (kV doc pm : Value) (an : Option Addr) (cdv ct : Value) (us its : List Value), us.length = n → its.length = dvs.length →
      ∃ k, bindArgs (PySem.W.fnOf x qual params body scope (.ref T) kV doc pm an cdv ct) ⟨us, []⟩ = seqItems? (.ref T) >>= k ∧ k (some its.toArray) = pure (ps.zip (us ++ its.drop j))) : Bnd K fd ps n [] (fun vs _ => vs ++ dvs.drop j) := by
  obtain ⟨oc, od, dV, kV, doc, pm, an, cdv, ct, osl, rfl, lk, hcd, hD, hK⟩ := F.ex
  rcases hD with ⟨e, _⟩ | ⟨_, T, o, its, m, rfl, lT, oT, rT⟩
  · exact absurd e hd
  · refine ⟨fun s us ws vs zs X hv hz rv rz => ⟨us ++ its.drop j, ?_, rv.append (rT.drop j)⟩⟩
    have hw : ws = [] := by
      have := rz.length
      rw [hz] at this
      exact List.eq_nil_of_length_eq_zero this.symm
    subst hw
    obtain ⟨k, e1, e2⟩ := h T kV doc pm an cdv ct us its (rv.length.symm.trans hv) rT.length.symm
    refine BindsTo.of_looks fun M => ?_
    show PySem.W.Looks M s.heap (bindArgs _ ⟨us, []⟩) _
    rw [e1]
    exact looks_items X lT oT (.of_pure e2)
/-! ### the law -/
theorem walkK {l : PySem.W.OpenLaw} {n k : Nat} {q : Program} {loose : List Str} {XP : (Str → Option Value) → Heap → Prop} {YP : World → Heap → Prop} {d : DefRec} {x : Str} (hn : l.most = some n) (hn2 : n ≤ sizeLine) (hdf : d.params.defaults = []) (room : Room k callerA)
    (F : ∀ (w : World) (mg : Str → Option Value) (fa : Addr) (h : Heap), YP w h → h.Ns mainGlobals mg → mg d.name = some (.ref fa) →
      ∃ (K : Frg) (fd : FuncData), K.In h ∧ (∀ (s : Shared) (u : Value), BindsTo s fd ⟨[u], []⟩ [(x, u)]) ∧ ∀ base : Heap, K.In base → base.Ns mainGlobals mg → FnG l.prog w K mg base CX0 k fa fd [x] (fun vs H Q _ => ∃ (a : Addr) (ns : List Int), vs = [.ref a] ∧ SqL K H a (ns.map V.int) ∧ ns.length ≤ n ∧ ∀ H', Q (.bl true) H')) :
    PySem.W.WalkO q loose XP YP l.row.toRowW d [] (fun f vs => PySem.call f vs) := by
  refine Att.attach_call hn hdf ?_
  intro w s₀ s₁ mg mb fa o pm cd doc a vs ns G Y _ _ _ hmg script whole short gens
  obtain ⟨K, fd, kin, bind, prom⟩ := F w mg fa _ Y G.T.g hmg
  obtain ⟨H, base, seq, kinB, nsB, env, fin⟩ := law_start (P := l.prog) (w := w) kin G.T.g G.T.b G.T.builtins G.T.nolimit gens script whole (Nat.le_trans short hn2)
  refine codeAny_mono ((prom base kinB nsB).run callerA [] s₁ H ⟨[.ref a], []⟩ [.ref a] [.ref a] (fun v _ => v = .bl true) (fun _ _ _ => False) ⟨room, rfl⟩ env (bind s₁ (.ref a)) (.cons rfl .nil) ⟨a, ns, rfl, seq, short, fun _ => rfl⟩) ?_
  intro r s2 out
  cases r with
  | error e => exact out.elim
  | ok flow =>
    cases flow with
    | ret u =>
      obtain ⟨⟨v, rv, z⟩, h1, h2, h3⟩ := fin (fun v => v = .bl true) u s2 out
      subst z
      obtain rfl : u = Value.bool true := rv
      exact ⟨rfl, h1, h2, h3⟩
    | next => exact out.elim
    | brk => exact out.elim
    | cont => exact out.elim
end Vx
namespace Vx
open PySem PySem.Spec PyProof.Rows L2
theorem es_of {P : Params} : ∀ {kvs : List (Str × Int)} {es : List DictEntry}, es.map He.keyOf = He.keysIn P (kvs.map (·.1)) → Vals (kvs.map fun q => V.int q.2) (es.map (·.val)) → ES P kvs es
  | [], [], _, _ => .nil
  | [], _ :: _, h, _ => by cases h
  | _ :: _, [], h, _ => by cases h
  | (k, v) :: r, e :: es, h, hv => by
    have h1 : He.keyOf e :: es.map He.keyOf = some (k, PyData.keyHash P k) :: He.keysIn P (r.map (·.1)) := h
    injection h1 with h2 h3
    obtain ⟨hh, kk, vv⟩ := e
    cases hv with
    | cons r1 r2 =>
      obtain ⟨u, e1⟩ := r1
      have e1 : vv = .int v u := e1
      subst e1
      unfold He.keyOf at h2
      cases kk with
      | str x t =>
        have h4 := Option.some.inj h2
        obtain ⟨h5, h6⟩ := Prod.mk.inj h4
        subst h5
        exact .cons h6 (es_of h3 r2)
      | _ => cases h2
theorem kds_of {K : Frg} {w : World} {a : Frg → Addr} {kvs : List (Str × Int)} (h : He.dicW K (a K) = some (He.keysIn w.params (kvs.map (·.1)))) (hv : dvB a (kvs.map fun q => .int q.2) K = true) : KDS K w (a K) kvs := by
  obtain ⟨es, n, e, k, v⟩ := dic_of h hv
  refine ⟨es, n, e, es_of k ?_⟩
  rw [List.map_map] at v
  exact v
end Vx
namespace Vx
open PySem PySem.Spec PyProof.Rows L2
theorem ea_of {P : Params} : ∀ {kvs : List (Str × Addr)} {es : List DictEntry}, es.map He.keyOf = He.keysIn P (kvs.map (·.1)) → Vals (kvs.map fun q => V.ref q.2) (es.map (·.val)) → EA P kvs es
  | [], [], _, _ => .nil
  | [], _ :: _, h, _ => by cases h
  | _ :: _, [], h, _ => by cases h
  | (k, v) :: r, e :: es, h, hv => by
    have h1 : He.keyOf e :: es.map He.keyOf = some (k, PyData.keyHash P k) :: He.keysIn P (r.map (·.1)) := h
    injection h1 with h2 h3
    obtain ⟨hh, kk, vv⟩ := e
    cases hv with
    | cons r1 r2 =>
      have e1 : vv = .ref v := r1
      subst e1
      unfold He.keyOf at h2
      cases kk with
      | str x t =>
        have h4 := Option.some.inj h2
        obtain ⟨h5, h6⟩ := Prod.mk.inj h4
        subst h5
        exact .cons h6 (ea_of h3 r2)
      | _ => cases h2
theorem kda_of {K : Frg} {w : World} {a : Frg → Addr} {kvs : List (Str × (Frg → Addr))} (h : He.dicW K (a K) = some (He.keysIn w.params (kvs.map (·.1)))) (hv : dvB a (kvs.map fun q => .adr q.2) K = true) : KDA K w (a K) (kvs.map fun q => (q.1, q.2 K)) := by
  obtain ⟨es, n, e, k, v⟩ := dic_of h hv
  refine ⟨es, n, e, ea_of (k.trans ?_) ?_⟩
  · rw [List.map_map]
    rfl
  · rw [List.map_map] at v ⊢
    exact v
end Vx
namespace Vx
open PySem PySem.Spec PyProof.Rows L2
structure St_Format where
  width : Int
  height : Int
  depth : Int
  chroma : Int
deriving DecidableEq
structure St_Settings where
  fmt : St_Format
  slots : Int
  rows : Int
  deblock : Bool
  offset : Bool
  layers : Int
deriving DecidableEq
structure St_PictureHeader where
  number : Int
  kind : Str
  level : Int
  store : (List Int)
  refs : (List Int)
  weight : Int
  layer : Int
  shown : Bool
  edge : Int
deriving DecidableEq
def F__law_digits_b1 (base_12 : Int) (large_13 : Bool) (cell_25 : Int) (digits_26 : (List Int)) (it29 : Int) : Rx (Int × (List Int)) :=
  (if large_13 = true then grd (0 < (base_12 : Int)) <| grd ((digits_26).length ≤ 1000000) <| bnd ((digits_26) ++ [(cell_25 % base_12)]) fun y39 => grd (0 < (base_12 : Int) ∧ (base_12 : Int) < 2 ^ 128) <| bnd ((cell_25 / base_12)) fun cell_41 => .ok ((cell_41), (y39)) else grd ((-(2 ^ 64) < ((it29 + 1) : Int) ∧ ((it29 + 1) : Int) < 2 ^ 64) ∨ (-(2 ^ 64) < ((it29 + 5) : Int) ∧ ((it29 + 5) : Int) < 2 ^ 64)) <| grd ((-(2 ^ 64) < ((cell_25 / 97) : Int) ∧ ((cell_25 / 97) : Int) < 2 ^ 64) ∨ (-(2 ^ 64) < (it29 : Int) ∧ (it29 : Int) < 2 ^ 64)) <| grd (0 < (base_12 : Int)) <| grd ((digits_26).length ≤ 1000000) <| bnd ((digits_26) ++ [(((((cell_25 * 48271) + (((it29 + 1) * (it29 + 5)) * 69621)) + ((cell_25 / 97) * it29)) % 2147483647) % base_12)]) fun y52 => .ok ((cell_25), (y52)))

def F__law_digits_r1 (cell_58 : Int) (digits_59 : (List Int)) : Rx (List Int) :=
  .ok (digits_59)

def F__law_digits (cell' : Int) (base' : Int) (most' : Int) : Rx (List Int) :=
  bnd (decide (((10 : Int) ^ Int.toNat 18) ≤ cell')) fun large_10 => grd (-(2 ^ 62) ≤ (most' : Int) ∧ (most' : Int) < 2 ^ 62) <| Rx.bind (forS (rng (0) (Int.toNat (most'))) ((cell'), (([] : (List Int)))) (fun s x => F__law_digits_b1 (base') (large_10) (s.1) (s.2) x)) fun s => F__law_digits_r1  (s.1) (s.2)

def F_Format___init__ (width' : Int) (height' : Int) (depth' : Int) (chroma' : Int) : Rx St_Format :=
  (if 1 ≤ width' then (if width' ≤ 256 then (if 1 ≤ height' then (if height' ≤ 256 then (if 8 ≤ depth' then (if depth' ≤ 12 then (if 0 ≤ chroma' then (if chroma' ≤ 2 then .ok (⟨width', height', depth', chroma'⟩ : St_Format) else .er 1) else .er 1) else .er 1) else .er 1) else .er 1) else .er 1) else .er 1) else .er 1)

def F__require (holds' : Bool) (text' : Str) : Rx Unit :=
  (if holds' = true then .ok (()) else .er 3)

def F_Settings___init__ (fmt' : St_Format) (slots' : Int) (rows' : Int) (deblock' : Bool) (offset' : Bool) (layers' : Int) : Rx St_Settings :=
  Rx.bind (F__require ((decide (1 ≤ slots') && decide (slots' ≤ 4))) (("there are 1 to 4 slots" : Str))) fun v96 => Rx.bind (F__require ((decide (1 ≤ rows') && decide (rows' ≤ 32))) (("a slice has 1 to 32 rows of blocks" : Str))) fun v100 => Rx.bind (F__require ((decide (1 ≤ layers') && decide (layers' ≤ 4))) (("there are 1 to 4 layers" : Str))) fun v104 => .ok (⟨fmt', slots', rows', deblock', offset', layers'⟩ : St_Settings)

def F__check_numbers_k7 (settings_205 : St_Settings) (header_206 : St_PictureHeader) : Rx Unit :=
  (if decide ((header_206.edge : Int) = 0) = true then Rx.bind (F__require true (("there is no edge without the filter" : Str))) fun v217 => .ok (()) else Rx.bind (F__require settings_205.deblock (("there is no edge without the filter" : Str))) fun v218 => .ok (()))

def F__check_numbers_k6 (settings_194 : St_Settings) (header_195 : St_PictureHeader) : Rx Unit :=
  Rx.bind (((if (-6) ≤ header_195.edge then Rx.bind (F__require (decide (header_195.edge ≤ 6)) (("the edge is from -6 to 6" : Str))) fun v210 => .ok () else Rx.bind (F__require false (("the edge is from -6 to 6" : Str))) fun v211 => .ok ()) : Rx Unit)) fun s => F__check_numbers_k7 (settings_194) (header_195) 

def F__check_numbers_k5 (settings_183 : St_Settings) (header_184 : St_PictureHeader) : Rx Unit :=
  Rx.bind (((if 0 ≤ header_184.layer then Rx.bind (F__require (decide (header_184.layer < settings_183.layers)) (("the layer is below the number of layers" : Str))) fun v199 => .ok () else Rx.bind (F__require false (("the layer is below the number of layers" : Str))) fun v200 => .ok ()) : Rx Unit)) fun s => F__check_numbers_k6 (settings_183) (header_184) 

def F__check_numbers_k4 (settings_172 : St_Settings) (header_173 : St_PictureHeader) : Rx Unit :=
  Rx.bind (((if decide ((header_173.weight : Int) = 8) = true then Rx.bind (F__require true (("only B pictures have a weight" : Str))) fun v188 => .ok () else Rx.bind (F__require (decide (V.str (header_173.kind) = V.str (("B" : Str)))) (("only B pictures have a weight" : Str))) fun v189 => .ok ()) : Rx Unit)) fun s => F__check_numbers_k5 (settings_172) (header_173) 

def F__check_numbers_k3 (settings_161 : St_Settings) (header_162 : St_PictureHeader) : Rx Unit :=
  Rx.bind (((if 0 ≤ header_162.weight then Rx.bind (F__require (decide (header_162.weight ≤ 16)) (("the weight is from 0 to 16" : Str))) fun v177 => .ok () else Rx.bind (F__require false (("the weight is from 0 to 16" : Str))) fun v178 => .ok ()) : Rx Unit)) fun s => F__check_numbers_k4 (settings_161) (header_162) 

def F__check_numbers_k2 (settings_152 : St_Settings) (header_153 : St_PictureHeader) : Rx Unit :=
  Rx.bind (((if 0 ≤ header_153.level then Rx.bind (F__require (decide (header_153.level ≤ 31)) (("the level is from 0 to 31" : Str))) fun v166 => .ok () else Rx.bind (F__require false (("the level is from 0 to 31" : Str))) fun v167 => .ok ()) : Rx Unit)) fun s => F__check_numbers_k3 (settings_152) (header_153) 

def F__check_numbers_k1 (settings_141 : St_Settings) (header_142 : St_PictureHeader) : Rx Unit :=
  Rx.bind ((Rx.bind (F__require (decide ((header_142.kind : Str) ∈ ([("I" : Str), ("P" : Str), ("B" : Str)] : List Str))) (("the kind of a picture is I, P or B" : Str))) fun v156 => .ok () : Rx Unit)) fun s => F__check_numbers_k2 (settings_141) (header_142) 

def F__check_numbers (settings' : St_Settings) (header' : St_PictureHeader) : Rx Unit :=
  Rx.bind (((if 0 ≤ header'.number then Rx.bind (F__require (decide (header'.number ≤ 999)) (("the number of a picture is from 0 to 999" : Str))) fun v146 => .ok () else Rx.bind (F__require false (("the number of a picture is from 0 to 999" : Str))) fun v147 => .ok ()) : Rx Unit)) fun s => F__check_numbers_k1 (settings') (header') 

def F__check_slots_b1 (settings_229 : St_Settings) (it247 : Int) : Rx Unit :=
  Rx.bind (F__require ((decide (0 ≤ it247) && decide (it247 < settings_229.slots))) (("there is no such slot" : Str))) fun v251 => .ok ()

def F__check_slots_r1 (header_230 : St_PictureHeader) : Rx Unit :=
  grd ((header_230.store : List Int).length ≤ 50) <| Rx.bind (F__require (decide ((header_230.store : (List Int)) = (sortSet (header_230.store)))) (("the slots of store ascend without duplicates" : Str))) fun v275 => grd (hasG ([("I", [0]), ("P", [1, 2]), ("B", [2])] : List (Str × List Int)) (header_230.kind) = true) <| Rx.bind (F__require (decide (((((header_230.refs) : (List Int)).length : Int) : Int) ∈ ((dictG ([("I", [0]), ("P", [1, 2]), ("B", [2])] : List (Str × List Int)) (header_230.kind)) : List Int))) (("the number of refs does not belong to the kind" : Str))) fun v277 => .ok (())

def F__check_slots (settings' : St_Settings) (header' : St_PictureHeader) : Rx Unit :=
  grd ((header'.store).length + (header'.refs).length ≤ 1000000) <| Rx.bind (forS ((header'.store) ++ (header'.refs)) () (fun s x => F__check_slots_b1 (settings')  x)) fun s => F__check_slots_r1 (header') 

def F_PictureHeader___init__ (settings' : St_Settings) (number' : Int) (kind' : Str) (level' : Int) (store' : (List Int)) (refs' : (List Int)) (weight' : Int) (layer' : Int) (shown' : Bool) (edge' : Int) : Rx St_PictureHeader :=
  Rx.bind (F__check_numbers (settings') ((⟨number', kind', level', store', refs', weight', layer', shown', edge'⟩ : St_PictureHeader))) fun v354 => Rx.bind (F__check_slots (settings') ((⟨number', kind', level', store', refs', weight', layer', shown', edge'⟩ : St_PictureHeader))) fun v361 => .ok (⟨number', kind', level', store', refs', weight', layer', shown', edge'⟩ : St_PictureHeader)

def F_Format_planes (self' : St_Format) : Rx Int :=
  .ok ((if (self'.chroma : Int) = 0 then 1 else 3))

def F_Format_blocks (self' : St_Format) : Rx (Int × Int) :=
  .ok (((((self'.width + 8) - 1) / 8), (((self'.height + 8) - 1) / 8)))

def F_Format__plane_size (self' : St_Format) (plane' : Int) (width' : Int) (height' : Int) : Rx (Int × Int) :=
  (if 0 ≤ plane' then Rx.bind (noEr (F_Format_planes (self'))) fun v384 => (if plane' < v384 then (if 0 < plane' then (if (self'.chroma : Int) = 1 then .ok ((((width' + 1) / 2), ((height' + 1) / 2))) else .ok ((width', height'))) else .ok ((width', height'))) else .er 2) else .er 2)

def F_Format_coded_size (self' : St_Format) (plane' : Int) : Rx (Int × Int) :=
  Rx.bind (F_Format_blocks (self')) fun v427 => Rx.bind (F_Format__plane_size (self') plane' ((v427.1 * 8)) ((v427.2 * 8))) fun v443 => .ok (v443)

def F__law_planes_c3 (digits_561 : (List Int)) (j_562 : Int) (it597 : Int) : Rx Int :=
  grd (-((digits_561 : (List Int)).length : Int) ≤ (((7 * j_562) + it597) % 24) ∧ (((7 * j_562) + it597) % 24) < ((digits_561 : (List Int)).length : Int)) <| .ok ((itD (digits_561) ((((7 * j_562) + it597) % 24))))

def F__law_planes_c4 (cell_640 : Int) (top_641 : Int) (j_642 : Int) (it677 : Int) : Rx Int :=
  grd (0 < ((top_641 + 1) : Int)) <| .ok ((((cell_640 + (9 * it677)) + (5 * j_642)) % (top_641 + 1)))

def F__law_planes_c5 (top_719 : Int) (digits_720 : (List Int)) (j_721 : Int) (it756 : Int) : Rx Int :=
  grd (-((digits_720 : (List Int)).length : Int) ≤ 0 ∧ 0 < ((digits_720 : (List Int)).length : Int)) <| grd (0 < ((top_719 + 1) : Int)) <| .ok ((((itD (digits_720) (0)) + (((it756 / 3) + (j_721 / 3)) * 40)) % (top_719 + 1)))

def F__law_planes_b2 (cell_534 : Int) (top_535 : Int) (size_536 : (Int × Int)) (digits_537 : (List Int)) (rows_555 : (List (List Int))) (it558 : Int) : Rx ((List (List Int))) :=
  (if (((cell_534 / 7) % 3) : Int) = 0 then grd (-(2 ^ 62) ≤ (size_536.1 : Int) ∧ (size_536.1 : Int) < 2 ^ 62) <| Rx.bind (mapA (rng (0) (Int.toNat (size_536.1))) [] (fun x => noEr (F__law_planes_c3 (digits_537) (it558) x))) fun v563 => grd ((rows_555).length ≤ 1000000) <| bnd ((rows_555) ++ [v563]) fun y635 => .ok (y635) else (if (((cell_534 / 7) % 3) : Int) = 1 then grd (-(2 ^ 62) ≤ (size_536.1 : Int) ∧ (size_536.1 : Int) < 2 ^ 62) <| Rx.bind (mapA (rng (0) (Int.toNat (size_536.1))) [] (fun x => noEr (F__law_planes_c4 (cell_534) (top_535) (it558) x))) fun v643 => grd ((rows_555).length ≤ 1000000) <| bnd ((rows_555) ++ [v643]) fun y715 => .ok (y715) else grd (-(2 ^ 62) ≤ (size_536.1 : Int) ∧ (size_536.1 : Int) < 2 ^ 62) <| Rx.bind (mapA (rng (0) (Int.toNat (size_536.1))) [] (fun x => noEr (F__law_planes_c5 (top_535) (digits_537) (it558) x))) fun v722 => grd ((rows_555).length ≤ 1000000) <| bnd ((rows_555) ++ [v722]) fun y795 => .ok (y795)))

def F__law_planes_r2 (planes_538 : (List (List (List Int)))) (rows_806 : (List (List Int))) : Rx ((List (List (List Int)))) :=
  grd ((planes_538).length ≤ 1000000) <| bnd ((planes_538) ++ [rows_806]) fun y819 => .ok (y819)

def F__law_planes_b1 (cell_474 : Int) (fmt_475 : St_Format) (top_476 : Int) (planes_494 : (List (List (List Int)))) (it497 : Int) : Rx ((List (List (List Int)))) :=
  Rx.bind (F_Format_coded_size (fmt_475) it497) fun v498 => Rx.bind (F__law_digits ((cell_474 + (17 * it497))) ((top_476 + 1)) 24) fun v514 => grd (-(2 ^ 62) ≤ (v498.2 : Int) ∧ (v498.2 : Int) < 2 ^ 62) <| Rx.bind (forS (rng (0) (Int.toNat (v498.2))) (([] : (List (List Int)))) (fun s x => F__law_planes_b2 (cell_474) (top_476) (v498) (v514) s x)) fun s => F__law_planes_r2 (planes_494) s

def F__law_planes_r1 (planes_826 : (List (List (List Int)))) : Rx (List (List (List Int))) :=
  .ok (planes_826)

def F__law_planes (cell' : Int) (fmt' : St_Format) (top' : Int) : Rx (List (List (List Int))) :=
  Rx.bind (noEr (F_Format_planes (fmt'))) fun v469 => grd (-(2 ^ 62) ≤ (v469 : Int) ∧ (v469 : Int) < 2 ^ 62) <| Rx.bind (forS (rng (0) (Int.toNat (v469))) (([] : (List (List (List Int))))) (fun s x => F__law_planes_b1 (cell') (fmt') (top') s x)) fun s => F__law_planes_r1  s

def F_copy_planes_c2 (it930 : (List Int)) : Rx (List Int) :=
  .ok it930

def F_copy_planes_c1 (it880 : (List (List Int))) : Rx (List (List Int)) :=
  Rx.bind (mapA (it880) [] (fun x => noEr (F_copy_planes_c2  x))) fun v881 => .ok v881

def F_copy_planes (planes' : (List (List (List Int)))) : Rx (List (List (List Int))) :=
  Rx.bind (mapA (planes') [] (fun x => noEr (F_copy_planes_c1  x))) fun v835 => .ok (v835)

def F_step_of (quantizer' : Int) : Rx Int :=
  (if 0 ≤ quantizer' then (if quantizer' ≤ 31 then grd ((-(2 ^ 64) < (quantizer' : Int) ∧ (quantizer' : Int) < 2 ^ 64) ∨ (-(2 ^ 64) < (quantizer' : Int) ∧ (quantizer' : Int) < 2 ^ 64)) <| .ok (((1 + quantizer') + ((quantizer' * quantizer') / 4))) else .er 2) else .er 2)

def F_edge_limit (first' : Int) (second' : Int) (edge' : Int) : Rx Int :=
  Rx.bind (F_step_of (((first' + second') / 2))) fun v985 => grd ((-(2 ^ 64) < (v985 : Int) ∧ (v985 : Int) < 2 ^ 64) ∨ (-(2 ^ 64) < ((8 + edge') : Int) ∧ ((8 + edge') : Int) < 2 ^ 64)) <| .ok (((v985 * (8 + edge')) / 16))

def F__limit_between (one' : (Int × Bool)) (other' : (Int × Bool)) (edge' : Int) : Rx Int :=
  (if one'.2 = true then (if other'.2 = true then .ok (0) else Rx.bind (F_edge_limit one'.1 other'.1 edge') fun v1001 => .ok (v1001)) else Rx.bind (F_edge_limit one'.1 other'.1 edge') fun v1002 => .ok (v1002))

def F__limits_c2 (edge_1068 : Int) (it1141 : ((Int × Bool) × (Int × Bool))) : Rx Int :=
  Rx.bind (F__limit_between (it1141.1) (it1141.2) edge_1068) fun v1142 => .ok v1142

def F__limits_c1 (edge_1007 : Int) (it1053 : (List (Int × Bool))) : Rx (List Int) :=
  Rx.bind (mapA (List.zip (it1053) (cutL (it1053) (some (1)) none)) [] (fun x => noEr (F__limits_c2 (edge_1007) x))) fun v1069 => .ok v1069

def F__limits (blocks' : (List (List (Int × Bool)))) (edge' : Int) : Rx (List (List Int)) :=
  Rx.bind (mapA (blocks') [] (fun x => noEr (F__limits_c1 (edge') x))) fun v1008 => .ok (v1008)

def F_transposed_c1 (it1251 : (List Int)) : Rx (List Int) :=
  .ok it1251

def F_transposed (rows' : (List (List Int))) : Rx (List (List Int)) :=
  grd (1 ≤ (rows' : List (List Int)).length ∧ (rows' : List (List Int)).length ≤ 1000000) <| Rx.bind (mapA (zipRows (rows')) [] (fun x => noEr (F_transposed_c1  x))) fun v1201 => .ok (v1201)

def F_transposed_v_b_c1 (it1343 : (List (Int × Bool))) : Rx (List (Int × Bool)) :=
  .ok it1343

def F_transposed_v_b (rows' : (List (List (Int × Bool)))) : Rx (List (List (Int × Bool))) :=
  grd (1 ≤ (rows' : (List (List (Int × Bool)))).length ∧ (rows' : (List (List (Int × Bool)))).length ≤ 1000000) <| Rx.bind (mapA (zipG (default : (Int × Bool)) (rows')) [] (fun x => noEr (F_transposed_v_b_c1  x))) fun v1292 => .ok (v1292)

def F_block_side (fmt' : St_Format) (plane' : Int) : Rx Int :=
  (if 0 < plane' then (if (fmt'.chroma : Int) = 1 then .ok ((8 / 2)) else .ok (8)) else .ok (8))

def F_clip (value' : Int) (low' : Int) (high' : Int) : Rx Int :=
  .ok ((if high' < (if low' > value' then low' else value') then high' else (if low' > value' then low' else value')))

def F_smooth_edge (a1' : Int) (a0' : Int) (b0' : Int) (b1' : Int) (limit' : Int) (top' : Int) : Rx (Int × Int) :=
  bnd ((decide ((if (a1' - a0') < 0 then -(a1' - a0') else (a1' - a0')) < limit') && decide ((if (b1' - b0') < 0 then -(b1' - b0') else (b1' - b0')) < limit'))) fun is_flat_1385 => (if is_flat_1385 = true then (if (2 * limit') ≤ (if (a0' - b0') < 0 then -(a0' - b0') else (a0' - b0')) then .ok ((a0', b0')) else Rx.bind (F_clip ((((((3 * (b0' - a0')) + a1') - b1') + 4) / 8)) ((-limit')) limit') fun v1412 => Rx.bind (F_clip ((a0' + v1412)) 0 top') fun v1413 => Rx.bind (F_clip ((b0' - v1412)) 0 top') fun v1414 => .ok ((v1413, v1414))) else .ok ((a0', b0')))

def F__smooth_row_b1 (side_1436 : Int) (top_1437 : Int) (smooth_1472 : (List Int)) (it1475 : (Int × Int)) : Rx ((List Int)) :=
  grd ((-(2 ^ 64) < ((it1475.1 + 1) : Int) ∧ ((it1475.1 + 1) : Int) < 2 ^ 64) ∨ (-(2 ^ 64) < (side_1436 : Int) ∧ (side_1436 : Int) < 2 ^ 64)) <| bnd (((it1475.1 + 1) * side_1436)) fun x_1477 => grd ((cutL (smooth_1472) (some ((x_1477 - 2))) (some ((x_1477 + 2)))).length = 4) <| bnd ((itD (cutL (smooth_1472) (some ((x_1477 - 2))) (some ((x_1477 + 2)))) 0)) fun a1_1489 => bnd ((itD (cutL (smooth_1472) (some ((x_1477 - 2))) (some ((x_1477 + 2)))) 1)) fun a0_1490 => bnd ((itD (cutL (smooth_1472) (some ((x_1477 - 2))) (some ((x_1477 + 2)))) 2)) fun b0_1491 => bnd ((itD (cutL (smooth_1472) (some ((x_1477 - 2))) (some ((x_1477 + 2)))) 3)) fun b1_1492 => Rx.bind (F_smooth_edge a1_1489 a0_1490 b0_1491 b1_1492 it1475.2 top_1437) fun v1493 => grd ((0 : Int) ≤ (x_1477 - 1) ∧ (x_1477 - 1) ≤ (x_1477 + 1) ∧ (x_1477 + 1) ≤ (((smooth_1472 : List Int).length : Nat) : Int) ∧ (smooth_1472 : List Int).length + ([v1493.1, v1493.2] : List Int).length ≤ 1000000) <| bnd ((spliceL (smooth_1472) ((x_1477 - 1)) ((x_1477 + 1)) ([v1493.1, v1493.2]))) fun y1517 => .ok (y1517)

def F__smooth_row_r1 (smooth_1523 : (List Int)) : Rx (List Int) :=
  .ok (smooth_1523)

def F__smooth_row (row' : (List Int)) (limits' : (List Int)) (side' : Int) (top' : Int) : Rx (List Int) :=
  Rx.bind (forS (enumL (limits')) (row') (fun s x => F__smooth_row_b1 (side') (top') s x)) fun s => F__smooth_row_r1  s

def F__smooth_rows_c1 (limits_1532 : (List (List Int))) (side_1533 : Int) (top_1534 : Int) (it1591 : (Int × (List Int))) : Rx (List Int) :=
  grd (0 < (side_1533 : Int) ∧ (side_1533 : Int) < 2 ^ 128) <| grd (-((limits_1532 : (List (List Int))).length : Int) ≤ (it1591.1 / side_1533) ∧ (it1591.1 / side_1533) < ((limits_1532 : (List (List Int))).length : Int)) <| Rx.bind (F__smooth_row (it1591.2) ((itD (limits_1532) ((it1591.1 / side_1533)))) side_1533 top_1534) fun v1599 => .ok v1599

def F__smooth_rows (plane' : (List (List Int))) (limits' : (List (List Int))) (side' : Int) (top' : Int) : Rx (List (List Int)) :=
  Rx.bind (mapA (enumL (plane')) [] (fun x => noEr (F__smooth_rows_c1 (limits') (side') (top') x))) fun v1535 => .ok (v1535)

def F_Format_top (self' : St_Format) : Rx Int :=
  grd ((0 : Int) ≤ self'.depth ∧ (self'.depth : Int) ≤ 4096 ∧ -(2 ^ 4096) < (1 : Int) ∧ (1 : Int) < 2 ^ 4096) <| .ok (((1 * 2 ^ Int.toNat (self'.depth)) - 1))

def F_deblock_b1 (fmt_1689 : St_Format) (vertical_1690 : (List (List Int))) (horizontal_1691 : (List (List Int))) (filtered_1735 : (List (List (List Int)))) (it1738 : (Int × (List (List Int)))) : Rx ((List (List (List Int)))) :=
  Rx.bind (F_block_side (fmt_1689) it1738.1) fun v1739 => Rx.bind (noEr (F_Format_top (fmt_1689))) fun v1743 => Rx.bind (F__smooth_rows (it1738.2) (vertical_1690) v1739 v1743) fun v1747 => Rx.bind (F_transposed (v1747)) fun v1766 => Rx.bind (noEr (F_Format_top (fmt_1689))) fun v1785 => Rx.bind (F__smooth_rows (v1766) (horizontal_1691) v1739 v1785) fun v1791 => Rx.bind (F_transposed (v1791)) fun v1811 => grd ((filtered_1735).length ≤ 1000000) <| bnd ((filtered_1735) ++ [v1811]) fun y1840 => .ok (y1840)

def F_deblock_r1 (filtered_1848 : (List (List (List Int)))) : Rx (List (List (List Int))) :=
  .ok (filtered_1848)

def F_deblock (fmt' : St_Format) (header' : St_PictureHeader) (planes' : (List (List (List Int)))) (blocks' : (List (List (Int × Bool)))) : Rx (List (List (List Int))) :=
  Rx.bind (F__limits (blocks') header'.edge) fun v1637 => Rx.bind (F_transposed_v_b (blocks')) fun v1651 => Rx.bind (F__limits (v1651) header'.edge) fun v1665 => Rx.bind (forS (enumL (planes')) (([] : (List (List (List Int))))) (fun s x => F_deblock_b1 (fmt') (v1637) (v1665) s x)) fun s => F_deblock_r1  s

def F__law_cell (script' : (List Int)) (k' : Int) : Rx Int :=
  (if k' < (((script') : (List Int)).length : Int) then grd (-((script' : (List Int)).length : Int) ≤ k' ∧ k' < ((script' : (List Int)).length : Int)) <| .ok ((if (itD (script') (k')) < 0 then -(itD (script') (k')) else (itD (script') (k')))) else .ok (0))

def F__law_limit (first' : (Int × Bool)) (second' : (Int × Bool)) (edge' : Int) : Rx Int :=
  (if first'.2 = true then (if second'.2 = true then .ok (0) else bnd (((first'.1 + second'.1) / 2)) fun mean_1865 => grd ((-(2 ^ 64) < (mean_1865 : Int) ∧ (mean_1865 : Int) < 2 ^ 64) ∨ (-(2 ^ 64) < (mean_1865 : Int) ∧ (mean_1865 : Int) < 2 ^ 64)) <| grd ((-(2 ^ 64) < (((1 + mean_1865) + ((mean_1865 * mean_1865) / 4)) : Int) ∧ (((1 + mean_1865) + ((mean_1865 * mean_1865) / 4)) : Int) < 2 ^ 64) ∨ (-(2 ^ 64) < ((8 + edge') : Int) ∧ ((8 + edge') : Int) < 2 ^ 64)) <| .ok (((((1 + mean_1865) + ((mean_1865 * mean_1865) / 4)) * (8 + edge')) / 16))) else bnd (((first'.1 + second'.1) / 2)) fun mean_1868 => grd ((-(2 ^ 64) < (mean_1868 : Int) ∧ (mean_1868 : Int) < 2 ^ 64) ∨ (-(2 ^ 64) < (mean_1868 : Int) ∧ (mean_1868 : Int) < 2 ^ 64)) <| grd ((-(2 ^ 64) < (((1 + mean_1868) + ((mean_1868 * mean_1868) / 4)) : Int) ∧ (((1 + mean_1868) + ((mean_1868 * mean_1868) / 4)) : Int) < 2 ^ 64) ∨ (-(2 ^ 64) < ((8 + edge') : Int) ∧ ((8 + edge') : Int) < 2 ^ 64)) <| .ok (((((1 + mean_1868) + ((mean_1868 * mean_1868) / 4)) * (8 + edge')) / 16)))

def F__law_pair (a1' : Int) (a0' : Int) (b0' : Int) (b1' : Int) (limit' : Int) (top' : Int) : Rx (Int × Int) :=
  (if limit' ≤ (if (a1' - a0') < 0 then -(a1' - a0') else (a1' - a0')) then .ok ((a0', b0')) else (if limit' ≤ (if (b1' - b0') < 0 then -(b1' - b0') else (b1' - b0')) then .ok ((a0', b0')) else (if (2 * limit') ≤ (if (a0' - b0') < 0 then -(a0' - b0') else (a0' - b0')) then .ok ((a0', b0')) else bnd ((if (if (((((3 * (b0' - a0')) + a1') - b1') + 4) / 8) < limit' then (((((3 * (b0' - a0')) + a1') - b1') + 4) / 8) else limit') > (0 - limit') then (if (((((3 * (b0' - a0')) + a1') - b1') + 4) / 8) < limit' then (((((3 * (b0' - a0')) + a1') - b1') + 4) / 8) else limit') else (0 - limit'))) fun change_1910 => .ok (((if (if (a0' + change_1910) < top' then (a0' + change_1910) else top') > 0 then (if (a0' + change_1910) < top' then (a0' + change_1910) else top') else 0), (if (if (b0' - change_1910) < top' then (b0' - change_1910) else top') > 0 then (if (b0' - change_1910) < top' then (b0' - change_1910) else top') else 0))))))

def F__law_columns_b2 (blocks_1966 : (List (List (Int × Bool)))) (size_1967 : Int) (edge_1968 : Int) (top_1969 : Int) (x_1970 : Int) (rows_1989 : (List (List Int))) (it1992 : Int) : Rx ((List (List Int))) :=
  grd (-((rows_1989 : (List (List Int))).length : Int) ≤ it1992 ∧ it1992 < ((rows_1989 : (List (List Int))).length : Int)) <| grd (0 < (size_1967 : Int) ∧ (size_1967 : Int) < 2 ^ 128) <| grd (-((blocks_1966 : (List (List (Int × Bool)))).length : Int) ≤ (it1992 / size_1967) ∧ (it1992 / size_1967) < ((blocks_1966 : (List (List (Int × Bool)))).length : Int)) <| grd (0 < (size_1967 : Int) ∧ (size_1967 : Int) < 2 ^ 128) <| grd (-(((itD (blocks_1966) ((it1992 / size_1967))) : (List (Int × Bool))).length : Int) ≤ ((x_1970 / size_1967) - 1) ∧ ((x_1970 / size_1967) - 1) < (((itD (blocks_1966) ((it1992 / size_1967))) : (List (Int × Bool))).length : Int)) <| grd (0 < (size_1967 : Int) ∧ (size_1967 : Int) < 2 ^ 128) <| grd (-((blocks_1966 : (List (List (Int × Bool)))).length : Int) ≤ (it1992 / size_1967) ∧ (it1992 / size_1967) < ((blocks_1966 : (List (List (Int × Bool)))).length : Int)) <| grd (0 < (size_1967 : Int) ∧ (size_1967 : Int) < 2 ^ 128) <| grd (-(((itD (blocks_1966) ((it1992 / size_1967))) : (List (Int × Bool))).length : Int) ≤ (x_1970 / size_1967) ∧ (x_1970 / size_1967) < (((itD (blocks_1966) ((it1992 / size_1967))) : (List (Int × Bool))).length : Int)) <| Rx.bind (noEr (F__law_limit ((itD ((itD (blocks_1966) ((it1992 / size_1967)))) (((x_1970 / size_1967) - 1)))) ((itD ((itD (blocks_1966) ((it1992 / size_1967)))) ((x_1970 / size_1967)))) edge_1968)) fun v2043 => grd (-(((itD (rows_1989) (it1992)) : (List Int)).length : Int) ≤ (x_1970 - 2) ∧ (x_1970 - 2) < (((itD (rows_1989) (it1992)) : (List Int)).length : Int)) <| grd (-(((itD (rows_1989) (it1992)) : (List Int)).length : Int) ≤ (x_1970 - 1) ∧ (x_1970 - 1) < (((itD (rows_1989) (it1992)) : (List Int)).length : Int)) <| grd (-(((itD (rows_1989) (it1992)) : (List Int)).length : Int) ≤ x_1970 ∧ x_1970 < (((itD (rows_1989) (it1992)) : (List Int)).length : Int)) <| grd (-(((itD (rows_1989) (it1992)) : (List Int)).length : Int) ≤ (x_1970 + 1) ∧ (x_1970 + 1) < (((itD (rows_1989) (it1992)) : (List Int)).length : Int)) <| Rx.bind (noEr (F__law_pair ((itD ((itD (rows_1989) (it1992))) ((x_1970 - 2)))) ((itD ((itD (rows_1989) (it1992))) ((x_1970 - 1)))) ((itD ((itD (rows_1989) (it1992))) (x_1970))) ((itD ((itD (rows_1989) (it1992))) ((x_1970 + 1)))) v2043 top_1969)) fun v2048 => grd (-(((itD (rows_1989) (it1992)) : (List Int)).length : Int) ≤ (x_1970 - 1) ∧ (x_1970 - 1) < (((itD (rows_1989) (it1992)) : (List Int)).length : Int)) <| bnd (setL (rows_1989) (it1992) (setL ((itD (rows_1989) (it1992))) ((x_1970 - 1)) (v2048.1))) fun y2073 => grd (-(((itD (y2073) (it1992)) : (List Int)).length : Int) ≤ x_1970 ∧ x_1970 < (((itD (y2073) (it1992)) : (List Int)).length : Int)) <| bnd (setL (y2073) (it1992) (setL ((itD (y2073) (it1992))) (x_1970) (v2048.2))) fun y2091 => .ok (y2091)

def F__law_columns_r2 (rows_2101 : (List (List Int))) : Rx ((List (List Int))) :=
  .ok (rows_2101)

def F__law_columns_b1 (blocks_1938 : (List (List (Int × Bool)))) (size_1939 : Int) (edge_1940 : Int) (top_1941 : Int) (rows_1961 : (List (List Int))) (it1964 : Int) : Rx ((List (List Int))) :=
  grd (-(2 ^ 62) ≤ ((((rows_1961) : (List (List Int))).length : Int) : Int) ∧ ((((rows_1961) : (List (List Int))).length : Int) : Int) < 2 ^ 62) <| Rx.bind (forS (rng (0) (Int.toNat ((((rows_1961) : (List (List Int))).length : Int)))) (rows_1961) (fun s x => F__law_columns_b2 (blocks_1938) (size_1939) (edge_1940) (top_1941) (it1964) s x)) fun s => F__law_columns_r2  s

def F__law_columns_r1 (rows_2110 : (List (List Int))) : Rx (List (List Int)) :=
  .ok rows_2110

def F__law_columns (rows' : (List (List Int))) (blocks' : (List (List (Int × Bool)))) (size' : Int) (edge' : Int) (top' : Int) : Rx (List (List Int)) :=
  grd (-((rows' : (List (List Int))).length : Int) ≤ 0 ∧ 0 < ((rows' : (List (List Int))).length : Int)) <| grd ((-(2 ^ 61) ≤ (size' : Int) ∧ (size' : Int) < 2 ^ 61) ∧ (-(2 ^ 61) ≤ (((((itD (rows') (0))) : (List Int)).length : Int) : Int) ∧ (((((itD (rows') (0))) : (List Int)).length : Int) : Int) < 2 ^ 61) ∧ 0 < (size' : Int) ∧ (size' : Int) < 1073741824) <| Rx.bind (forS (rngP (size') (size') (stepN (size') (((((itD (rows') (0))) : (List Int)).length : Int)) (size'))) (rows') (fun s x => F__law_columns_b1 (blocks') (size') (edge') (top') s x)) fun s => F__law_columns_r1  s

def F__law_turned_c2 (rows_2153 : (List (List Int))) (i_2154 : Int) (it2187 : Int) : Rx Int :=
  grd (-((rows_2153 : (List (List Int))).length : Int) ≤ it2187 ∧ it2187 < ((rows_2153 : (List (List Int))).length : Int)) <| grd (-(((itD (rows_2153) (it2187)) : (List Int)).length : Int) ≤ i_2154 ∧ i_2154 < (((itD (rows_2153) (it2187)) : (List Int)).length : Int)) <| .ok ((itD ((itD (rows_2153) (it2187))) (i_2154)))

def F__law_turned_c1 (rows_2122 : (List (List Int))) (it2151 : Int) : Rx (List Int) :=
  grd (-(2 ^ 62) ≤ ((((rows_2122) : (List (List Int))).length : Int) : Int) ∧ ((((rows_2122) : (List (List Int))).length : Int) : Int) < 2 ^ 62) <| Rx.bind (mapA (rng (0) (Int.toNat ((((rows_2122) : (List (List Int))).length : Int)))) [] (fun x => noEr (F__law_turned_c2 (rows_2122) (it2151) x))) fun v2155 => .ok v2155

def F__law_turned (rows' : (List (List Int))) : Rx (List (List Int)) :=
  grd (-((rows' : (List (List Int))).length : Int) ≤ 0 ∧ 0 < ((rows' : (List (List Int))).length : Int)) <| grd (-(2 ^ 62) ≤ (((((itD (rows') (0))) : (List Int)).length : Int) : Int) ∧ (((((itD (rows') (0))) : (List Int)).length : Int) : Int) < 2 ^ 62) <| Rx.bind (mapA (rng (0) (Int.toNat (((((itD (rows') (0))) : (List Int)).length : Int)))) [] (fun x => noEr (F__law_turned_c1 (rows') x))) fun v2123 => .ok (v2123)

def F__law_turned_v_b_c2 (rows_2279 : (List (List (Int × Bool)))) (i_2280 : Int) (it2311 : Int) : Rx (Int × Bool) :=
  grd (-((rows_2279 : (List (List (Int × Bool)))).length : Int) ≤ it2311 ∧ it2311 < ((rows_2279 : (List (List (Int × Bool)))).length : Int)) <| grd (-(((itD (rows_2279) (it2311)) : (List (Int × Bool))).length : Int) ≤ i_2280 ∧ i_2280 < (((itD (rows_2279) (it2311)) : (List (Int × Bool))).length : Int)) <| .ok ((itD ((itD (rows_2279) (it2311))) (i_2280)))

def F__law_turned_v_b_c1 (rows_2248 : (List (List (Int × Bool)))) (it2277 : Int) : Rx (List (Int × Bool)) :=
  grd (-(2 ^ 62) ≤ ((((rows_2248) : (List (List (Int × Bool)))).length : Int) : Int) ∧ ((((rows_2248) : (List (List (Int × Bool)))).length : Int) : Int) < 2 ^ 62) <| Rx.bind (mapA (rng (0) (Int.toNat ((((rows_2248) : (List (List (Int × Bool)))).length : Int)))) [] (fun x => noEr (F__law_turned_v_b_c2 (rows_2248) (it2277) x))) fun v2281 => .ok v2281

def F__law_turned_v_b (rows' : (List (List (Int × Bool)))) : Rx (List (List (Int × Bool))) :=
  grd (-((rows' : (List (List (Int × Bool)))).length : Int) ≤ 0 ∧ 0 < ((rows' : (List (List (Int × Bool)))).length : Int)) <| grd (-(2 ^ 62) ≤ (((((itD (rows') (0))) : (List (Int × Bool))).length : Int) : Int) ∧ (((((itD (rows') (0))) : (List (Int × Bool))).length : Int) : Int) < 2 ^ 62) <| Rx.bind (mapA (rng (0) (Int.toNat (((((itD (rows') (0))) : (List (Int × Bool))).length : Int)))) [] (fun x => noEr (F__law_turned_v_b_c1 (rows') x))) fun v2249 => .ok (v2249)

def F_law_k5 (row_2626 : (List (Int × Bool))) (draw_2627 : Int) (level_2628 : Int) : Rx ((List (Int × Bool))) :=
  grd ((row_2626).length ≤ 1000000) <| bnd ((row_2626) ++ [(level_2628, decide ((((draw_2627 / 7) % 3) : Int) = 0))]) fun y2667 => .ok (y2667)

def F_law_b4 (size_2584 : (Int × Int)) (draws_2585 : (List Int)) (j_2586 : Int) (row_2618 : (List (Int × Bool))) (it2621 : Int) : Rx ((List (Int × Bool))) :=
  grd ((-(2 ^ 64) < (j_2586 : Int) ∧ (j_2586 : Int) < 2 ^ 64) ∨ (-(2 ^ 64) < (size_2584.1 : Int) ∧ (size_2584.1 : Int) < 2 ^ 64)) <| grd (-((draws_2585 : (List Int)).length : Int) ≤ ((j_2586 * size_2584.1) + it2621) ∧ ((j_2586 * size_2584.1) + it2621) < ((draws_2585 : (List Int)).length : Int)) <| bnd ((itD (draws_2585) (((j_2586 * size_2584.1) + it2621)))) fun draw_2624 => bnd (((draw_2624 / 5) % 32)) fun level_2625 => Rx.bind (((if ((draw_2624 % 5) : Int) = 0 then .ok (0) else .ok (level_2625)) : Rx (Int))) fun s => F_law_k5 (row_2618) (draw_2624) s

def F_law_r4 (blocks_2587 : (List (List (Int × Bool)))) (row_2690 : (List (Int × Bool))) : Rx ((List (List (Int × Bool)))) :=
  grd ((blocks_2587).length ≤ 1000000) <| bnd ((blocks_2587) ++ [row_2690]) fun y2703 => .ok (y2703)

def F_law_b3 (size_2533 : (Int × Int)) (draws_2534 : (List Int)) (blocks_2569 : (List (List (Int × Bool)))) (it2572 : Int) : Rx ((List (List (Int × Bool)))) :=
  grd (-(2 ^ 62) ≤ (size_2533.1 : Int) ∧ (size_2533.1 : Int) < 2 ^ 62) <| Rx.bind (forS (rng (0) (Int.toNat (size_2533.1))) (([] : (List (Int × Bool)))) (fun s x => F_law_b4 (size_2533) (draws_2534) (it2572) s x)) fun s => F_law_r4 (blocks_2569) s

def F_law_k7 (fmt_2839 : St_Format) (edge_2840 : Int) (blocks_2841 : (List (List (Int × Bool)))) (due_2842 : (List (List (List Int)))) (plane_2843 : Int) (small_2844 : Int) : Rx ((List (List (List Int)))) :=
  grd (-((due_2842 : (List (List (List Int)))).length : Int) ≤ plane_2843 ∧ plane_2843 < ((due_2842 : (List (List (List Int)))).length : Int)) <| Rx.bind (noEr (F_Format_top (fmt_2839))) fun v2877 => Rx.bind (F__law_columns ((itD (due_2842) (plane_2843))) (blocks_2841) small_2844 edge_2840 v2877) fun v2883 => bnd (setL (due_2842) (plane_2843) (v2883)) fun y2907 => grd (-((y2907 : (List (List (List Int)))).length : Int) ≤ plane_2843 ∧ plane_2843 < ((y2907 : (List (List (List Int)))).length : Int)) <| Rx.bind (F__law_turned ((itD (y2907) (plane_2843)))) fun v2923 => Rx.bind (F__law_turned_v_b (blocks_2841)) fun v2942 => Rx.bind (noEr (F_Format_top (fmt_2839))) fun v2957 => Rx.bind (F__law_columns (v2923) (v2942) small_2844 edge_2840 v2957) fun v2963 => Rx.bind (F__law_turned (v2963)) fun v2984 => grd (-((y2907).length : Int) ≤ plane_2843 ∧ plane_2843 < ((y2907).length : Int)) <| bnd (setL (y2907) (plane_2843) (v2984)) fun y3016 => .ok (y3016)

def F_law_b6 (fmt_2788 : St_Format) (edge_2789 : Int) (blocks_2790 : (List (List (Int × Bool)))) (due_2835 : (List (List (List Int)))) (it2838 : Int) : Rx ((List (List (List Int)))) :=
  Rx.bind (((if 0 < it2838 then (if (fmt_2788.chroma : Int) = 1 then .ok (4) else .ok (8)) else .ok (8)) : Rx (Int))) fun s => F_law_k7 (fmt_2788) (edge_2789) (blocks_2790) (due_2835) (it2838) s

def F_law_b9 (plane_3159 : Int) (told_3192 : (List (List (List Int)))) (it3195 : Int) : Rx ((List (List (List Int)))) :=
  grd (-((told_3192 : (List (List (List Int)))).length : Int) ≤ plane_3159 ∧ plane_3159 < ((told_3192 : (List (List (List Int)))).length : Int)) <| grd (-(((itD (told_3192) (plane_3159)) : (List (List Int))).length : Int) ≤ it3195 ∧ it3195 < (((itD (told_3192) (plane_3159)) : (List (List Int))).length : Int)) <| grd (-(((itD ((itD (told_3192) (plane_3159))) (it3195)) : (List Int)).length : Int) ≤ 0 ∧ 0 < (((itD ((itD (told_3192) (plane_3159))) (it3195)) : (List Int)).length : Int)) <| bnd (setL ((itD (told_3192) (plane_3159))) (it3195) (setL ((itD ((itD (told_3192) (plane_3159))) (it3195))) (0) ((-1)))) fun y3228 => bnd (setL (told_3192) (plane_3159) (y3228)) fun y3231 => grd (-((y3231 : (List (List (List Int)))).length : Int) ≤ plane_3159 ∧ plane_3159 < ((y3231 : (List (List (List Int)))).length : Int)) <| grd (-(((itD (y3231) (plane_3159)) : (List (List Int))).length : Int) ≤ it3195 ∧ it3195 < (((itD (y3231) (plane_3159)) : (List (List Int))).length : Int)) <| grd (-((y3231 : (List (List (List Int)))).length : Int) ≤ plane_3159 ∧ plane_3159 < ((y3231 : (List (List (List Int)))).length : Int)) <| grd (-(((itD (y3231) (plane_3159)) : (List (List Int))).length : Int) ≤ it3195 ∧ it3195 < (((itD (y3231) (plane_3159)) : (List (List Int))).length : Int)) <| grd (-(((itD ((itD (y3231) (plane_3159))) (it3195)) : (List Int)).length : Int) ≤ (((((itD ((itD (y3231) (plane_3159))) (it3195))) : (List Int)).length : Int) - 1) ∧ (((((itD ((itD (y3231) (plane_3159))) (it3195))) : (List Int)).length : Int) - 1) < (((itD ((itD (y3231) (plane_3159))) (it3195)) : (List Int)).length : Int)) <| bnd (setL ((itD (y3231) (plane_3159))) (it3195) (setL ((itD ((itD (y3231) (plane_3159))) (it3195))) ((((((itD ((itD (y3231) (plane_3159))) (it3195))) : (List Int)).length : Int) - 1)) ((-1)))) fun y3289 => bnd (setL (y3231) (plane_3159) (y3289)) fun y3292 => .ok (y3292)

def F_law_r9 (told_3328 : (List (List (List Int)))) : Rx ((List (List (List Int)))) :=
  .ok (told_3328)

def F_law_b8 (told_3140 : (List (List (List Int)))) (it3143 : Int) : Rx ((List (List (List Int)))) :=
  grd (-((told_3140 : (List (List (List Int)))).length : Int) ≤ it3143 ∧ it3143 < ((told_3140 : (List (List (List Int)))).length : Int)) <| grd (-(2 ^ 62) ≤ (((((itD (told_3140) (it3143))) : (List (List Int))).length : Int) : Int) ∧ (((((itD (told_3140) (it3143))) : (List (List Int))).length : Int) : Int) < 2 ^ 62) <| Rx.bind (forS (rng (0) (Int.toNat (((((itD (told_3140) (it3143))) : (List (List Int))).length : Int)))) (told_3140) (fun s x => F_law_b9 (it3143) s x)) fun s => F_law_r9  s

def F_law_r8 (fmt_3090 : St_Format) (header_3091 : St_PictureHeader) (blocks_3092 : (List (List (Int × Bool)))) (planes_3093 : (List (List (List Int)))) (kept_3094 : Str) (due_3095 : (List (List (List Int)))) (told_3354 : (List (List (List Int)))) : Rx Bool :=
  grd (ShowOk ((encL encD) ([((encL (encL (encL PyData.int))) (planes_3093)), ((encL (encL (encT2 PyData.int PyData.bool))) (blocks_3092))]))) <| (if decide (V.str ((PyData.shown ((encL encD) ([((encL (encL (encL PyData.int))) (planes_3093)), ((encL (encL (encT2 PyData.int PyData.bool))) (blocks_3092))])))) = V.str (kept_3094)) = true then Rx.bind (F_deblock (fmt_3090) (header_3091) (planes_3093) (blocks_3092)) fun v3373 => .ok (decide ((v3373 : (List (List (List Int)))) = due_3095)) else .ok (false))

def F_law_r6 (fmt_2791 : St_Format) (header_2792 : St_PictureHeader) (blocks_2793 : (List (List (Int × Bool)))) (planes_2794 : (List (List (List Int)))) (kept_2795 : Str) (due_3045 : (List (List (List Int)))) : Rx Bool :=
  Rx.bind (F_deblock (fmt_2791) (header_2792) (planes_2794) (blocks_2793)) fun v3046 => grd (ShowOk ((encL encD) ([((encL (encL (encL PyData.int))) (planes_2794)), ((encL (encL (encT2 PyData.int PyData.bool))) (blocks_2793))]))) <| (if V.str ((PyData.shown ((encL encD) ([((encL (encL (encL PyData.int))) (planes_2794)), ((encL (encL (encT2 PyData.int PyData.bool))) (blocks_2793))])))) = V.str (kept_2795) then (if (v3046 : (List (List (List Int)))) = due_3045 then Rx.bind (noEr (F_Format_planes (fmt_2791))) fun v3085 => grd (-(2 ^ 62) ≤ (v3085 : Int) ∧ (v3085 : Int) < 2 ^ 62) <| Rx.bind (forS (rng (0) (Int.toNat (v3085))) (v3046) (fun s x => F_law_b8  s x)) fun s => F_law_r8 (fmt_2791) (header_2792) (blocks_2793) (planes_2794) (kept_2795) (due_3045) s else .ok (false)) else .ok (false))

def F_law_r3 (script_2535 : (List Int)) (fmt_2536 : St_Format) (edge_2537 : Int) (header_2538 : St_PictureHeader) (blocks_2724 : (List (List (Int × Bool)))) : Rx Bool :=
  Rx.bind (F__law_cell (script_2535) 2) fun v2725 => Rx.bind (noEr (F_Format_top (fmt_2536))) fun v2726 => Rx.bind (F__law_planes v2725 (fmt_2536) v2726) fun v2731 => grd (ShowOk ((encL encD) ([((encL (encL (encL PyData.int))) (v2731)), ((encL (encL (encT2 PyData.int PyData.bool))) (blocks_2724))]))) <| Rx.bind (F_copy_planes (v2731)) fun v2763 => Rx.bind (noEr (F_Format_planes (fmt_2536))) fun v2783 => grd (-(2 ^ 62) ≤ (v2783 : Int) ∧ (v2783 : Int) < 2 ^ 62) <| Rx.bind (forS (rng (0) (Int.toNat (v2783))) (v2763) (fun s x => F_law_b6 (fmt_2536) (edge_2537) (blocks_2724) s x)) fun s => F_law_r6 (fmt_2536) (header_2538) (blocks_2724) (v2731) ((PyData.shown ((encL encD) ([((encL (encL (encL PyData.int))) (v2731)), ((encL (encL (encT2 PyData.int PyData.bool))) (blocks_2724))])))) s

def F_law_k2 (script_2409 : (List Int)) (first_2410 : (List Int)) (width_2411 : Int) (height_2412 : Int) : Rx Bool :=
  grd (-((first_2410 : (List Int)).length : Int) ≤ 2 ∧ 2 < ((first_2410 : (List Int)).length : Int)) <| grd (-((first_2410 : (List Int)).length : Int) ≤ 3 ∧ 3 < ((first_2410 : (List Int)).length : Int)) <| Rx.bind (F_Format___init__ width_2411 height_2412 ((8 + ((itD (first_2410) (2)) % 5))) (((itD (first_2410) (3)) % 3))) fun v2441 => Rx.bind (F_Settings___init__ (v2441) 1 1 true false 1) fun v2458 => grd (-((first_2410 : (List Int)).length : Int) ≤ 4 ∧ 4 < ((first_2410 : (List Int)).length : Int)) <| bnd ((((itD (first_2410) (4)) % 13) - 6)) fun edge_2465 => grd (-((first_2410 : (List Int)).length : Int) ≤ 5 ∧ 5 < ((first_2410 : (List Int)).length : Int)) <| Rx.bind (F_PictureHeader___init__ ((⟨v2441, v2458.slots, v2458.rows, v2458.deblock, v2458.offset, v2458.layers⟩ : St_Settings)) 0 (("I" : Str)) (((itD (first_2410) (5)) % 32)) (([] : List Int)) (([] : List Int)) 8 0 true edge_2465) fun v2480 => Rx.bind (F_Format_blocks (v2441)) fun v2495 => Rx.bind (F__law_cell (script_2409) 1) fun v2511 => grd ((-(2 ^ 64) < (v2495.1 : Int) ∧ (v2495.1 : Int) < 2 ^ 64) ∨ (-(2 ^ 64) < (v2495.2 : Int) ∧ (v2495.2 : Int) < 2 ^ 64)) <| Rx.bind (F__law_digits v2511 2520 ((v2495.1 * v2495.2))) fun v2513 => grd (-(2 ^ 62) ≤ (v2495.2 : Int) ∧ (v2495.2 : Int) < 2 ^ 62) <| Rx.bind (forS (rng (0) (Int.toNat (v2495.2))) (([] : (List (List (Int × Bool))))) (fun s x => F_law_b3 (v2495) (v2513) s x)) fun s => F_law_r3 (script_2409) (v2441) (edge_2465) ((⟨v2480.number, v2480.kind, v2480.level, v2480.store, v2480.refs, v2480.weight, v2480.layer, v2480.shown, v2480.edge⟩ : St_PictureHeader)) s

def F_law_k1 (script_2390 : (List Int)) (first_2391 : (List Int)) (width_2392 : Int) (height_2393 : Int) : Rx Bool :=
  Rx.bind ((grd (-((first_2391 : (List Int)).length : Int) ≤ 0 ∧ 0 < ((first_2391 : (List Int)).length : Int)) <| (if ((((itD (first_2391) (0)) / 24) % 8) : Int) = 6 then grd (-((first_2391 : (List Int)).length : Int) ≤ 0 ∧ 0 < ((first_2391 : (List Int)).length : Int)) <| bnd ((1 + ((itD (first_2391) (0)) % 8))) fun width_2420 => grd (-((first_2391 : (List Int)).length : Int) ≤ 1 ∧ 1 < ((first_2391 : (List Int)).length : Int)) <| bnd ((25 + ((itD (first_2391) (1)) % 24))) fun height_2422 => .ok ((width_2420), (height_2422)) else .ok ((width_2392), (height_2393))) : Rx (Int × Int))) fun s => F_law_k2 (script_2390) (first_2391) (s.1) (s.2)

def F_law (script' : (List Int)) : Rx Bool :=
  Rx.bind (F__law_cell (script') 0) fun v2376 => Rx.bind (F__law_digits v2376 2520 6) fun v2377 => grd (-((v2377 : (List Int)).length : Int) ≤ 0 ∧ 0 < ((v2377 : (List Int)).length : Int)) <| bnd ((1 + ((itD (v2377) (0)) % 24))) fun width_2387 => grd (-((v2377 : (List Int)).length : Int) ≤ 1 ∧ 1 < ((v2377 : (List Int)).length : Int)) <| bnd ((1 + ((itD (v2377) (1)) % 24))) fun height_2389 => Rx.bind ((grd (-((v2377 : (List Int)).length : Int) ≤ 0 ∧ 0 < ((v2377 : (List Int)).length : Int)) <| (if ((((itD (v2377) (0)) / 24) % 8) : Int) = 7 then grd (-((v2377 : (List Int)).length : Int) ≤ 0 ∧ 0 < ((v2377 : (List Int)).length : Int)) <| bnd ((25 + ((itD (v2377) (0)) % 24))) fun width_2401 => grd (-((v2377 : (List Int)).length : Int) ≤ 1 ∧ 1 < ((v2377 : (List Int)).length : Int)) <| bnd ((1 + ((itD (v2377) (1)) % 8))) fun height_2403 => .ok ((width_2401), (height_2403)) else .ok ((width_2387), (height_2389))) : Rx (Int × Int))) fun s => F_law_k1 (script') (v2377) (s.1) (s.2)
theorem cell_gv (s : List Int) (k : Int) (h : 0 ≤ k) : Gv (F__law_cell s k) (fun v => 0 ≤ v) := by
  unfold F__law_cell
  refine Gv.ite (fun c => Gv.grd ⟨by omega, c⟩ (.ok ?_)) fun _ => .ok (by decide)
  split <;> omega
theorem all_snoc {P : Int → Prop} {xs : List Int} {y : Int} (h : ∀ x ∈ xs, P x) (hy : P y) : ∀ x ∈ xs ++ [y], P x := fun x hx => by
  rcases List.mem_append.mp hx with q | q
  · exact h x q
  · rw [List.mem_singleton.mp q]
    exact hy
theorem digits_gv (cell base most : Int) (h0 : 0 < base) (h1 : base < 2 ^ 64) (hm : 0 ≤ most) (hm2 : most ≤ 1000) : Gv (F__law_digits cell base most) (fun v => (v.length : Int) = most ∧ ∀ x ∈ v, 0 ≤ x ∧ x < base) := by
  unfold F__law_digits
  refine Gv.bnd fun large _ => Gv.grd ⟨by omega, by omega⟩ (Gv.bind (Gv.forS (P := fun i s => s.2.length = i ∧ ∀ x ∈ s.2, 0 ≤ x ∧ x < base) ⟨rfl, fun x hx => by cases hx⟩ fun i x s hx p => ?_) fun s p => .ok ⟨?_, p.2⟩)
  · obtain ⟨rfl, hi⟩ := rng_at hx
    have hl := p.1
    unfold F__law_digits_b1
    refine Gv.ite (fun _ => Gv.grd h0 (Gv.grd (by omega) (Gv.bnd fun y hy => Gv.grd ⟨h0, by omega⟩ (Gv.bnd fun c _ => .ok ?_)))) fun _ => Gv.grd ?_ (Gv.grd ?_ (Gv.grd h0 (Gv.grd (by omega) (Gv.bnd fun y hy => .ok ?_))))
    · subst hy
      exact ⟨by rw [List.length_append, hl]; rfl, all_snoc p.2 ⟨Int.emod_nonneg _ (by omega), Int.emod_lt_of_pos _ h0⟩⟩
    · left
      omega
    · right
      omega
    · subst hy
      exact ⟨by rw [List.length_append, hl]; rfl, all_snoc p.2 ⟨Int.emod_nonneg _ (by omega), Int.emod_lt_of_pos _ h0⟩⟩
  · have := p.1
    rw [rng_len] at this
    omega
theorem itD_some {α : Type} [Inhabited α] {xs : List α} {k : Int} (h : -(xs.length : Int) ≤ k ∧ k < xs.length) : ∃ j : Nat, xs[j]? = some (itD xs k) := by
  obtain ⟨j, e, hj⟩ := ixN_some h
  refine ⟨j, ?_⟩
  unfold itD atI
  rw [e, List.getElem?_eq_getElem hj]
  show some xs[j] = some ((xs[j]?).getD default)
  rw [List.getElem?_eq_getElem hj] <;> rfl
theorem itD_mem {α : Type} [Inhabited α] {xs : List α} {k : Int} (h : -(xs.length : Int) ≤ k ∧ k < xs.length) : itD xs k ∈ xs := by
  obtain ⟨j, e⟩ := itD_some h
  exact List.mem_of_getElem? e
theorem itD_map {α β : Type} [Inhabited α] [Inhabited β] {xs : List α} {f : α → β} {k : Int} (h : -(xs.length : Int) ≤ k ∧ k < xs.length) : itD (xs.map f) k = f (itD xs k) := by
  obtain ⟨j, e, hj⟩ := ixN_some h
  unfold itD atI
  rw [List.length_map, e]
  show ((xs.map f)[j]?).getD default = f ((xs[j]?).getD default)
  rw [List.getElem?_map, List.getElem?_eq_getElem hj] <;> rfl
theorem itD_nat {α : Type} [Inhabited α] {xs : List α} {k : Int} {j : Nat} (e : k = (j : Int)) (h : j < xs.length) : itD xs k = xs[j] := by
  subst e
  unfold itD atI ixN
  rw [if_pos (by omega), if_pos (by omega)]
  show (xs[j]?).getD default = _
  rw [List.getElem?_eq_getElem h] <;> rfl
theorem setL_mem {α : Type} {xs : List α} {k : Int} {y z : α} (h : z ∈ setL xs k y) : z ∈ xs ∨ z = y := by
  unfold setL at h
  exact List.mem_or_eq_of_mem_set h
theorem setL_len {α : Type} {xs : List α} {k : Int} {y : α} : (setL xs k y).length = xs.length := by
  unfold setL
  rw [List.length_set]
/-! planes, samples between samples -/
/-! ### tables -/
section
variable {α : Type}
theorem rng_map_get {f : Int → α} {a : Int} {n i : Nat} (h : i < n) : ((rng a n).map f)[i]? = some (f (a + i)) := by rw [List.getElem?_map, rng_get h]; rfl
theorem rng_map_ext {f g : Int → α} {a b : Int} {n : Nat} (h : ∀ i : Nat, i < n → f (a + i) = g (b + i)) : (rng a n).map f = (rng b n).map g := by
  apply List.ext_getElem?
  intro i
  by_cases hi : i < n
  · rw [rng_map_get hi, rng_map_get hi, h i hi]
  · rw [List.getElem?_eq_none (by rw [List.length_map, rng_len]; omega), List.getElem?_eq_none (by rw [List.length_map, rng_len]; omega)]
theorem rng_map_itD [Inhabited α] {f : Int → α} {a k : Int} {n : Nat} (h0 : 0 ≤ k) (h1 : k < n) : itD ((rng a n).map f) k = f (a + k) := by
  obtain ⟨j, rfl⟩ : ∃ j : Nat, k = (j : Int) := ⟨k.toNat, by omega⟩
  have hl : j < ((rng a n).map f).length := by rw [List.length_map, rng_len]; omega
  have := rng_map_get (f := f) (a := a) (n := n) (i := j) (by omega)
  unfold itD
  rw [atI_nat this]
  rfl
theorem sIx_at {n d : Nat} {v : Int} (h0 : 0 ≤ v) (h1 : v ≤ n) : HT.sIx n d (some v) = v.toNat := by
  show (if v < 0 then (v + (n : Int)).toNat else min v.toNat n) = v.toNat
  rw [if_neg (by omega)]
  omega
theorem cut_tab {f : Int → α} {a s : Int} {n k : Nat} (h0 : 0 ≤ s) (h1 : s + k ≤ n) : cutL ((rng a n).map f) (some s) (some (s + k)) = (rng (a + s) k).map f := by
  have hl : ((rng a n).map f).length = n := by rw [List.length_map, rng_len]
  unfold cutL
  rw [hl, sIx_at h0 (by omega), sIx_at (by omega) h1]
  apply List.ext_getElem?
  intro i
  by_cases hi : i < k
  · rw [List.getElem?_take_of_lt (by omega), List.getElem?_drop, rng_map_get (by omega), rng_map_get hi]
    congr 2
    omega
  · rw [List.getElem?_eq_none (by rw [List.length_take, List.length_drop, hl]; omega), List.getElem?_eq_none (by rw [List.length_map, rng_len]; omega)]
theorem cut_tab1 {f : Int → α} {a : Int} {n : Nat} : cutL ((rng a (n + 1)).map f) (some 1) none = (rng (a + 1) n).map f := by
  have hl : ((rng a (n + 1)).map f).length = n + 1 := by rw [List.length_map, rng_len]
  unfold cutL
  rw [hl, sIx_at (by decide) (by omega), HT.sIx_none]
  apply List.ext_getElem?
  intro i
  by_cases hi : i < n
  · rw [List.getElem?_take_of_lt (by show i < n + 1 - 1; omega), List.getElem?_drop, rng_map_get (by show 1 + i < n + 1; omega), rng_map_get hi]
    congr 2
    show a + ((1 + i : Nat) : Int) = a + 1 + i
    omega
  · rw [List.getElem?_eq_none (by rw [List.length_take, List.length_drop, hl]; show min (n + 1 - 1) (n + 1 - 1) ≤ i; omega), List.getElem?_eq_none (by rw [List.length_map, rng_len]; omega)]
theorem zip_tab {f : Int → α} {a : Int} {n : Nat} : List.zip ((rng a (n + 1)).map f) (cutL ((rng a (n + 1)).map f) (some 1) none) = (rng a n).map fun c => (f c, f (c + 1)) := by
  rw [cut_tab1]
  apply List.ext_getElem?
  intro i
  by_cases hi : i < n
  · rw [rng_map_get hi]
    refine List.getElem?_zip_eq_some.mpr ⟨rng_map_get (by omega), ?_⟩
    rw [rng_map_get hi]
    congr 2
    omega
  · rw [List.getElem?_eq_none (by rw [List.length_zip, List.length_map, List.length_map, rng_len, rng_len]; omega), List.getElem?_eq_none (by rw [List.length_map, rng_len]; omega)]
theorem zip_tab2 {β : Type} {f : Int → α} {g : Int → β} {a : Int} {n : Nat} : List.zip ((rng a n).map f) ((rng a n).map g) = (rng a n).map fun c => (f c, g c) := by
  apply List.ext_getElem?
  intro i
  by_cases hi : i < n
  · rw [rng_map_get hi]
    exact List.getElem?_zip_eq_some.mpr ⟨rng_map_get hi, rng_map_get hi⟩
  · rw [List.getElem?_eq_none (by rw [List.length_zip, List.length_map, List.length_map, rng_len]; omega), List.getElem?_eq_none (by rw [List.length_map, rng_len]; omega)]
end
theorem itDn {α : Type} [Inhabited α] {xs : List α} {j : Nat} (h : j < xs.length) : itD xs (j : Int) = xs[j] := itD_nat rfl h
/-- a loop that makes a list item by item -/
theorem forS_list {α β : Type} {xs : List α} {f : List β → α → Rx (List β)} {g : α → β} (h : ∀ s x, x ∈ xs → s.length ≤ 1000000 → f s x = .ok (s ++ [g x])) : ∀ acc : List β, acc.length + xs.length ≤ 1000000 → forS xs acc f = .ok (acc ++ xs.map g) := by
  induction xs with
  | nil => intro acc _; simp [forS]
  | cons x r ih =>
    intro acc hl
    rw [List.length_cons] at hl
    show (f acc x).bind _ = _
    rw [h acc x List.mem_cons_self (by omega), bind_ok, ih (fun s y hy => h s y (List.mem_cons_of_mem _ hy)) (acc ++ [g x]) (by rw [List.length_append, List.length_cons, List.length_nil]; omega)]
    simp
/-! ### a plane -/
def Pl (w h top : Int) (M : List (List Int)) : Prop := 1 ≤ w ∧ 1 ≤ h ∧ (M.length : Int) = h ∧ (∀ r ∈ M, (r.length : Int) = w) ∧ ∀ r ∈ M, ∀ x ∈ r, 0 ≤ x ∧ x ≤ top
def cl (v hi : Int) : Int := if hi < (if 0 > v then 0 else v) then hi else (if 0 > v then 0 else v)
theorem cl_in {v hi : Int} (h : 0 ≤ hi) : 0 ≤ cl v hi ∧ cl v hi ≤ hi := by
  unfold cl
  split <;> split <;> omega
theorem cl_id {v hi : Int} (h0 : 0 ≤ v) (h1 : v ≤ hi) : cl v hi = v := by
  unfold cl
  rw [if_neg (show ¬ 0 > v by omega), if_neg (by omega)]
def val (w h : Int) (M : List (List Int)) (x y : Int) : Int := itD (itD M (cl y (h - 1))) (cl x (w - 1))
section
variable {w h top : Int} {M : List (List Int)}
theorem Pl.row (p : Pl w h top M) {y : Int} (h0 : 0 ≤ y) (h1 : y < h) : ((itD M y).length : Int) = w := by
  obtain ⟨_, _, hl, hr, _⟩ := p
  exact hr _ (itD_mem (by rw [hl]; omega))
theorem Pl.val (p : Pl w h top M) (x y : Int) : 0 ≤ val w h M x y ∧ val w h M x y ≤ top := by
  have h1 := cl_in (v := y) (hi := h - 1) (by have := p.2.1; omega)
  have h2 := cl_in (v := x) (hi := w - 1) (by have := p.1; omega)
  have hr := p.row (y := cl y (h - 1)) h1.1 (by omega)
  exact p.2.2.2.2 _ (itD_mem (by rw [p.2.2.1]; omega)) _ (itD_mem (by rw [hr]; omega))
end
theorem rep_one {v k x : Int} (h : x ∈ repL [v] k) : x = v := by
  unfold repL at h
  obtain ⟨l, hl, hx⟩ := List.mem_flatten.mp h
  rw [(List.mem_replicate.mp hl).2] at hx
  exact List.mem_singleton.mp hx
theorem rep_lenP {v k : Int} (h : 0 ≤ k) : ((repL [v] k).length : Int) = k := by
  unfold repL
  obtain ⟨j, rfl⟩ : ∃ j : Nat, k = (j : Int) := ⟨k.toNat, by omega⟩
  rw [Int.toNat_natCast]
  have : (List.replicate j [v]).flatten.length = j := by
    induction j with
    | zero => rfl
    | succ j ih =>
      rw [List.replicate_succ, List.flatten_cons, List.length_append, ih (by omega)]
      simp
      omega
  rw [this]
theorem one_4096 : -(2 ^ 4096) < (1 : Int) ∧ (1 : Int) < 2 ^ 4096 := by
  have h : (0 : Int) < 2 ^ 4095 := Int.pow_pos (by decide)
  have e : (2 : Int) ^ 4096 = 2 ^ 4095 * 2 := Int.pow_succ 2 4095
  generalize (2 : Int) ^ 4095 = z at h e
  generalize (2 : Int) ^ 4096 = y at e ⊢
  omega
theorem top_b {d : Int} (h0 : 0 ≤ d) (h1 : d < 5) : 255 ≤ 1 * 2 ^ Int.toNat (8 + d) - (1 : Int) ∧ 1 * 2 ^ Int.toNat (8 + d) - (1 : Int) ≤ 4095 := by
  have : d = 0 ∨ d = 1 ∨ d = 2 ∨ d = 3 ∨ d = 4 := by omega
  rcases this with rfl | rfl | rfl | rfl | rfl <;> decide
/-! sizes of formats, frames -/
def zp (c a pl : Int) : Int := if 0 < pl ∧ c = 1 then (a + 1) / 2 else a
def up (a : Int) : Int := (a + 7) / 8 * 8
def nn (c : Int) : Nat := if c = 0 then 1 else 3
theorem nn_in (c : Int) : nn c = 1 ∨ nn c = 3 := by unfold nn; split <;> simp
theorem nn_pos {c pl : Int} (h : 0 < pl) (h2 : pl < nn c) : c ≠ 0 := by
  rintro rfl
  have e : nn 0 = 1 := rfl
  rw [e] at h2
  omega
theorem planes_eq {w h d c : Int} : F_Format_planes ⟨w, h, d, c⟩ = .ok (nn c : Int) := by
  unfold F_Format_planes nn
  show Rx.ok (if c = 0 then (1 : Int) else 3) = _
  by_cases q : c = 0
  · rw [if_pos q, if_pos q]
    rfl
  · rw [if_neg q, if_neg q]
    rfl
theorem psize_eq {w h d c : Int} {pl a b : Int} (hp : 0 ≤ pl ∧ pl < nn c) : F_Format__plane_size ⟨w, h, d, c⟩ pl a b = .ok (zp c a pl, zp c b pl) := by
  unfold F_Format__plane_size
  rw [if_pos hp.1, planes_eq, noEr_ok, bind_ok, if_pos hp.2]
  unfold zp
  by_cases z : 0 < pl
  · rw [if_pos z]
    show (if c = 1 then _ else _) = _
    by_cases q : c = 1
    · rw [if_pos q, if_pos ⟨z, q⟩, if_pos ⟨z, q⟩]
    · rw [if_neg q, if_neg (fun x => q x.2), if_neg (fun x => q x.2)]
  · rw [if_neg z, if_neg (fun x => z x.1), if_neg (fun x => z x.1)]
theorem list_tab {α : Type} [Inhabited α] {R : List α} {n : Nat} (h : R.length = n) : R = (rng 0 n).map fun k => itD R k := by
  apply List.ext_getElem?
  intro k
  by_cases q : k < n
  · rw [rng_map_get q, List.getElem?_eq_getElem (by omega)]
    congr 1
    rw [show (0 : Int) + (k : Int) = (k : Int) by omega, itDn (by omega)]
  · rw [List.getElem?_eq_none (by omega), List.getElem?_eq_none (by rw [List.length_map, rng_len]; omega)]
/-- planes of a shape, with samples up to t -/
structure Fr (c a b t : Int) (R : List (List (List Int))) : Prop where
  len : R.length = nn c
  pl : ∀ k : Int, 0 ≤ k → k < nn c → Pl (zp c a k) (zp c b k) t (itD R k)
def tp (d : Int) : Int := 1 * 2 ^ Int.toNat d - 1
theorem up_in {a : Int} (h : 1 ≤ a ∧ a ≤ 20) : a ≤ up a ∧ 8 ≤ up a ∧ up a ≤ 24 := by unfold up; omega
theorem zp_in {c a pl l u : Int} (h : l ≤ a ∧ a ≤ u) (h1 : 1 ≤ l) : (l + 1) / 2 ≤ zp c a pl ∧ zp c a pl ≤ u := by unfold zp; split <;> omega
theorem zp_le {c a b pl : Int} (h : a ≤ b) : zp c a pl ≤ zp c b pl := by unfold zp; split <;> omega
theorem tp_in {d : Int} (h : 8 ≤ d ∧ d ≤ 12) : 255 ≤ tp d ∧ tp d ≤ 4095 := by
  have := top_b (d := d - 8) (by omega) (by omega)
  rw [show 8 + (d - 8) = d by omega] at this
  exact this
theorem fr_mem {c t : Int} {R : List (List (List Int))} {a b : Int} (f : Fr c a b t R) {M : List (List Int)} (hM : M ∈ R) : ∃ k : Int, 0 ≤ k ∧ k < nn c ∧ M = itD R k := by
  obtain ⟨j, hj⟩ := List.mem_iff_getElem?.mp hM
  have hl := get_len hj
  refine ⟨j, by omega, by have := f.len; omega, ?_⟩
  rw [itDn hl]
  rw [List.getElem?_eq_getElem hl] at hj
  exact (Option.some.inj hj).symm
theorem tab_at {c : Int} {g : Int → List (List Int)} {k : Int} (k0 : 0 ≤ k) (k1 : k < nn c) : itD ((rng 0 (nn c)).map g) k = g k := by
  rw [rng_map_itD k0 (by omega), Int.zero_add]
/-! the planes that a law draws (_law_planes) -/
theorem cod_eq {w h d c pl : Int} (k0 : 0 ≤ pl) (k1 : pl < nn c) : F_Format_coded_size ⟨w, h, d, c⟩ pl = .ok (zp c (up w) pl, zp c (up h) pl) := by
  unfold F_Format_coded_size F_Format_blocks
  show Rx.bind (F_Format__plane_size ⟨w, h, d, c⟩ pl ((w + 8 - 1) / 8 * 8) ((h + 8 - 1) / 8 * 8)) _ = _
  rw [psize_eq ⟨k0, k1⟩, show w + 8 - 1 = w + 7 by omega, show h + 8 - 1 = h + 7 by omega]
  rfl
theorem lplanes_gv {w h d c top cell : Int} (hw : 1 ≤ w ∧ w ≤ 1000) (hh : 1 ≤ h ∧ h ≤ 1000) (ht : 0 ≤ top ∧ top ≤ 4095) (h0 : 0 ≤ cell) : Gv (F__law_planes cell ⟨w, h, d, c⟩ top) (Fr c (up w) (up h) top) := by
  have n0 := nn_in c
  have uw : 8 ≤ up w ∧ up w ≤ 1007 := by unfold up; omega
  have uh : 8 ≤ up h ∧ up h ≤ 1007 := by unfold up; omega
  unfold F__law_planes
  refine Gv.bind_eq (a := (nn c : Int)) (by rw [planes_eq]; rfl) (Gv.grd ⟨by omega, by omega⟩ ?_)
  rw [Int.toNat_natCast]
  refine Gv.bind (Gv.forS (P := fun i s => s.length = i ∧ ∀ j : Nat, j < i → Pl (zp c (up w) j) (zp c (up h) j) top (itD s j)) ⟨rfl, fun j hj => absurd hj (Nat.not_lt_zero _)⟩ fun i x s hx p => ?_) fun s p => .ok ⟨by rw [p.1, rng_len], fun k k0 k1 => ?_⟩
  · obtain ⟨rfl, hi⟩ := rng_at hx
    rw [Int.zero_add]
    have z1 := zp_in (c := c) (pl := (i : Int)) uw (by omega)
    have z2 := zp_in (c := c) (pl := (i : Int)) uh (by omega)
    unfold F__law_planes_b1
    refine Gv.bind_eq (cod_eq (by omega) (by omega)) (Gv.bind (digits_gv _ _ _ (by omega) (by omega) (by decide) (by decide)) fun ds hds => Gv.grd ⟨by show -(2 ^ 62) ≤ zp c (up h) i; omega, by show zp c (up h) i < 2 ^ 62; omega⟩ ?_)
    show Gv (Rx.bind (forS (rng 0 (Int.toNat (zp c (up h) i))) _ _) _) _
    refine Gv.bind (Gv.forS (P := fun j s => s.length = j ∧ ∀ r ∈ s, (r.length : Int) = zp c (up w) i ∧ ∀ z ∈ r, 0 ≤ z ∧ z ≤ top) ⟨rfl, fun r hr => nomatch hr⟩ fun j y rs hy q => ?_) fun rs q => ?_
    · obtain ⟨rfl, hj⟩ := rng_at hy
      have fin : ∀ g : Int → Int, (∀ z, 0 ≤ g z ∧ g z ≤ top) → Gv (grd (rs.length ≤ 1000000) <| bnd (rs ++ [(rng 0 (Int.toNat (zp c (up w) i))).map g]) fun y => .ok y) (fun s => s.length = j + 1 ∧ ∀ r ∈ s, (r.length : Int) = zp c (up w) i ∧ ∀ z ∈ r, 0 ≤ z ∧ z ≤ top) := fun g hg => by
        refine Gv.grd (by have := q.1; omega) (Gv.bnd fun y hy => .ok ?_)
        subst hy
        refine ⟨by rw [List.length_append, q.1]; rfl, fun r hr => ?_⟩
        rcases List.mem_append.mp hr with hr | hr
        · exact q.2 r hr
        · rw [List.mem_singleton.mp hr]
          refine ⟨by rw [List.length_map, rng_len]; omega, fun z hz => ?_⟩
          obtain ⟨a, _, rfl⟩ := List.mem_map.mp hz
          exact hg a
      have gw : -(2 ^ 62) ≤ ((zp c (up w) i, zp c (up h) i) : Int × Int).1 ∧ ((zp c (up w) i, zp c (up h) i) : Int × Int).1 < 2 ^ 62 := ⟨by show -(2 ^ 62) ≤ zp c (up w) i; omega, by show zp c (up w) i < 2 ^ 62; omega⟩
      have em : ∀ x : Int, 0 ≤ x % (top + 1) ∧ x % (top + 1) ≤ top := fun x => by
        have a := Int.emod_nonneg x (show top + 1 ≠ 0 by omega)
        have b := Int.emod_lt_of_pos x (show 0 < top + 1 by omega)
        omega
      unfold F__law_planes_b2
      refine Gv.ite (fun _ => Gv.grd gw (Gv.bind_eq (mapA_pure0 (g := fun a => itD ds ((7 * (0 + (j : Int)) + a) % 24)) (fun a _ => ?_) (by rw [rng_len]; show (zp c (up w) i).toNat ≤ _; omega)) ?_)) fun _ => Gv.ite (fun _ => Gv.grd gw (Gv.bind_eq (mapA_pure0 (g := fun a => (cell + 9 * a + 5 * (0 + (j : Int))) % (top + 1)) (fun a _ => ?_) (by rw [rng_len]; show (zp c (up w) i).toNat ≤ _; omega)) (fin _ fun z => em _))) fun _ => Gv.grd gw (Gv.bind_eq (mapA_pure0 (g := fun a => (itD ds 0 + (a / 3 + (0 + (j : Int)) / 3) * 40) % (top + 1)) (fun a _ => ?_) (by rw [rng_len]; show (zp c (up w) i).toNat ≤ _; omega)) (fin _ fun z => em _))
      · unfold F__law_planes_c3
        rw [grd_pos (by omega)]
        rfl
      · refine fin _ fun z => ?_
        have m := hds.2 _ (itD_mem (xs := ds) (k := (7 * (0 + (j : Int)) + z) % 24) (by omega))
        omega
      · unfold F__law_planes_c4
        rw [grd_pos (by omega)]
        rfl
      · unfold F__law_planes_c5
        rw [grd_pos (by omega), grd_pos (by omega)]
        rfl
    · unfold F__law_planes_r2
      refine Gv.grd (by have := p.1; omega) (Gv.bnd fun y hy => .ok ?_)
      subst hy
      refine ⟨by rw [List.length_append, p.1]; rfl, fun j hj => ?_⟩
      by_cases e : j = i
      · subst e
        have l : j < (s ++ [rs]).length := by rw [List.length_append, p.1]; show j < j + 1; omega
        rw [itDn l, List.getElem_append_right (by rw [p.1]; exact Nat.le_refl _)]
        have q1 := q.1
        rw [rng_len] at q1
        have : (s ++ [rs])[j]'l = rs := by rw [List.getElem_append_right (by rw [p.1]; exact Nat.le_refl _)]; simp
        simp only [p.1, Nat.sub_self, List.getElem_cons_zero]
        exact ⟨by omega, by omega, by omega, fun r hr => (q.2 r hr).1, fun r hr => (q.2 r hr).2⟩
      · have hji : j < i := by omega
        have l1 : j < s.length := by rw [p.1]; exact hji
        have l : j < (s ++ [rs]).length := by rw [List.length_append]; omega
        rw [itDn l, List.getElem_append_left l1, ← itDn l1]
        exact p.2 j hji
  · rw [rng_len] at p
    obtain ⟨j, rfl⟩ : ∃ j : Nat, k = (j : Int) := ⟨k.toNat, by omega⟩
    exact p.2 j (by omega)
/-! ### tables changed -/
section
variable {α : Type}
theorem setL_nat {xs : List α} {k : Int} {y : α} (h0 : 0 ≤ k) (h1 : k < xs.length) : setL xs k y = xs.set k.toNat y := by
  obtain ⟨j, rfl⟩ : ∃ j : Nat, k = (j : Int) := ⟨k.toNat, by omega⟩
  unfold setL ixN
  rw [if_pos (by omega), if_pos (by omega)]
  rfl
theorem set_at [Inhabited α] {xs : List α} {k : Int} {y : α} (h0 : 0 ≤ k) (h1 : k < (xs.length : Int)) : itD (setL xs k y) k = y := by
  rw [setL_nat h0 h1]
  obtain ⟨j, rfl⟩ : ∃ j : Nat, k = (j : Int) := ⟨k.toNat, by omega⟩
  have hj2 : j < (xs.set j y).length := by rw [List.length_set]; omega
  rw [Int.toNat_natCast, itDn hj2, List.getElem_set_self]
theorem set_tab {f : Int → α} {n : Nat} {k : Int} {v : α} (h0 : 0 ≤ k) (h1 : k < n) : setL ((rng 0 n).map f) k v = (rng 0 n).map fun x => if x = k then v else f x := by
  have hl : ((rng 0 n).map f).length = n := by rw [List.length_map, rng_len]
  rw [setL_nat h0 (by rw [hl]; exact h1)]
  apply List.ext_getElem?
  intro i
  by_cases hi : i < n
  · rw [rng_map_get hi, List.getElem?_set, hl]
    by_cases e : k.toNat = i
    · rw [if_pos e, if_pos (by omega), if_pos (by omega)]
    · rw [if_neg e, rng_map_get hi, if_neg (by omega)]
  · rw [List.getElem?_eq_none (by rw [List.length_set, hl]; omega), List.getElem?_eq_none (by rw [List.length_map, rng_len]; omega)]
theorem tab_ext {f g : Int → α} {n : Nat} (h : ∀ x : Int, 0 ≤ x → x < n → f x = g x) : (rng 0 n).map f = (rng 0 n).map g :=
  List.map_congr_left fun x hx => by
    have := rng_mem hx
    exact h x this.1 (by omega)
theorem tab_len {f : Int → α} {a : Int} {n : Nat} : ((rng a n).map f).length = n := by rw [List.length_map, rng_len]
theorem tab_itD [Inhabited α] {f : Int → α} {n : Nat} {k : Int} (h0 : 0 ≤ k) (h1 : k < n) : itD ((rng 0 n).map f) k = f k := by
  rw [rng_map_itD h0 h1, Int.zero_add]
end
theorem splice_tab {α : Type} {f g : Int → α} {n : Nat} {lo hi : Int} (h0 : 0 ≤ lo) (h1 : lo ≤ hi) (h2 : hi ≤ n) : spliceL ((rng 0 n).map f) lo hi ((rng lo (Int.toNat (hi - lo))).map g) = (rng 0 n).map fun y => if lo ≤ y ∧ y < hi then g y else f y := by
  unfold spliceL
  apply List.ext_getElem?
  intro i
  have ll : (((rng 0 n).map f).take lo.toNat).length = lo.toNat := by rw [List.length_take, tab_len]; omega
  have lm : ((rng lo (Int.toNat (hi - lo))).map g).length = (hi - lo).toNat := tab_len
  by_cases hi' : i < n
  · rw [rng_map_get hi']
    by_cases c1 : i < lo.toNat
    · rw [List.append_assoc, List.getElem?_append_left (by rw [ll]; exact c1), List.getElem?_take_of_lt c1, rng_map_get hi', if_neg (by omega)]
    · by_cases c2 : i < hi.toNat
      · rw [List.getElem?_append_left (by rw [List.length_append, ll, lm]; omega), List.getElem?_append_right (by rw [ll]; omega), ll, rng_map_get (by omega), if_pos (by omega)]
        congr 2
        omega
      · rw [List.getElem?_append_right (by rw [List.length_append, ll, lm]; omega), List.length_append, ll, lm, List.getElem?_drop, rng_map_get (by omega), if_neg (by omega)]
        congr 2
        omega
  · rw [List.getElem?_eq_none (by rw [List.length_append, List.length_append, ll, lm, List.length_drop, tab_len]; omega), List.getElem?_eq_none (by rw [tab_len]; omega)]
theorem splice_len {α : Type} {xs ys : List α} {lo hi : Int} (h0 : 0 ≤ lo) (h1 : lo ≤ hi) (h2 : hi ≤ xs.length) (hl : (ys.length : Int) = hi - lo) : (spliceL xs lo hi ys).length = xs.length := by
  unfold spliceL
  rw [List.length_append, List.length_append, List.length_take, List.length_drop]
  omega
/-! planes as data -/
theorem fr_sm {c a b t : Int} {R : List (List (List Int))} (f : Fr c a b t R) (ha : 1 ≤ a ∧ a ≤ 64) (hb : 1 ≤ b ∧ b ≤ 64) (ht : t ≤ 4095) : Sm (1 + 3 * (1 + 64 * (1 + 64 * 1))) 3 (encL (encL (encL PyData.int)) R) := by
  have n0 := nn_in c
  refine sm_L (fun M hM => ?_) (by have := f.len; omega)
  obtain ⟨k, k0, k1, rfl⟩ := fr_mem f hM
  have p := f.pl k k0 k1
  have z1 := zp_in (c := c) (pl := k) (l := 1) (u := 64) ha (by omega)
  have z2 := zp_in (c := c) (pl := k) (l := 1) (u := 64) hb (by omega)
  have l := p.2.2.1
  refine sm_L (fun r hr => sm_ints (fun x hx => ?_) (by have := p.2.2.2.1 r hr; omega)) (by omega)
  have := p.2.2.2.2 r hr x hx
  omega
theorem eok3 : EncOk 3 (encL (encL (encL PyData.int))) := encOk_L (encOk_L (encOk_L encOk_int))
theorem eok_shaped {α : Type} [DecidableEq α] {n : Nat} {f : α → PyData} (ok : EncOk n f) (x : α) (h : n ≤ 64) : SeqAt.shaped (f x) = true := by
  unfold SeqAt.shaped
  rw [ok.lay x, decide_eq_true (Nat.le_trans (ok.dep x) h)]
  rfl
theorem zip_rows {u : Int → Int → Int} {a b : Int} {n k : Nat} (hk : 0 < k) : zipRows ((rng a k).map fun s => (rng b n).map fun c => u s c) = (rng b n).map fun c => (rng a k).map fun s => u s c := by
  have hne : ((rng a k).map fun s => (rng b n).map fun c => u s c) ≠ [] := by
    intro z
    have := congrArg List.length z
    rw [List.length_map, rng_len] at this
    simp at this
    omega
  have hm : minLen ((rng a k).map fun s => (rng b n).map fun c => u s c) = n := by
    obtain ⟨x, hx, e⟩ := minLen_at hne
    obtain ⟨s, _, rfl⟩ := List.mem_map.mp hx
    rw [← e, List.length_map, rng_len]
  apply List.ext_getElem?
  intro i
  by_cases hi : i < n
  · rw [zipRows_get (by rw [hm]; exact hi), rng_map_get hi]
    congr 1
    unfold colOf
    rw [List.map_map]
    apply List.map_congr_left
    intro s _
    show itD ((rng b n).map fun c => u s c) (i : Int) = u s (b + i)
    rw [rng_map_itD (by omega) (by omega)]
  · rw [List.getElem?_eq_none (by rw [zipRows_len, hm]; omega), List.getElem?_eq_none (by rw [List.length_map, rng_len]; omega)]
/-- a loop that makes a list item by item -/
theorem sq_b {q : Int} (h0 : 0 ≤ q) (h1 : q ≤ 31) : 0 ≤ q * q ∧ q * q ≤ 961 := ⟨Int.mul_nonneg h0 h0, by
  have := Int.mul_le_mul h1 h1 h0 (by decide : (0 : Int) ≤ 31)
  omega⟩
def stp (q : Int) : Int := (1 + q) + (q * q) / 4
theorem stp_b {q : Int} (h0 : 0 ≤ q) (h1 : q ≤ 31) : 0 < stp q ∧ stp q < 1000 := by
  have := sq_b h0 h1
  unfold stp
  omega
theorem step_ok {q : Int} (h0 : 0 ≤ q) (h1 : q ≤ 31) : F_step_of q = .ok (stp q) := by
  unfold F_step_of
  rw [if_pos h0, if_pos h1, grd_pos (.inl ⟨by omega, by omega⟩)]
  rfl
abbrev rqE : Nat := 3
/-! ### headers of pictures -/
def rq (b : Bool) : Rx Unit := if b = true then .ok () else .er rqE
theorem rq_req (b : Bool) (t : Str) : F__require b t = rq b := rfl
theorem rq_bind (a b : Bool) {f : Unit → Rx Unit} (h : f () = rq b) : (rq a).bind f = rq (a && b) := by
  cases a
  · rfl
  · show f () = _
    rw [h]
    rfl
theorem rq_if {p : Prop} [Decidable p] (b : Bool) (t : Str) : (if p then (F__require b t).bind fun _ => .ok () else (F__require false t).bind fun _ => .ok () : Rx Unit) = rq (decide p && b) := by
  by_cases h : p
  · rw [if_pos h, decide_eq_true h]
    cases b <;> rfl
  · rw [if_neg h, decide_eq_false h]
    rfl
theorem rq_or {c : Bool} (b : Bool) (t : Str) : (if c = true then (F__require true t).bind fun _ => .ok () else (F__require b t).bind fun _ => .ok () : Rx Unit) = rq (c || b) := by
  cases c <;> cases b <;> rfl
abbrev CNT : List (Str × List Int) := [("I", [0]), ("P", [1, 2]), ("B", [2])]
/-- what a header of a picture must be -/
structure HOk (S : St_Settings) (n : Int) (k : Str) (l : Int) (st rf : List Int) (w ly ed : Int) : Prop where
  num : 0 ≤ n ∧ n ≤ 999
  kind : k ∈ ([("I" : Str), ("P" : Str), ("B" : Str)] : List Str)
  level : 0 ≤ l ∧ l ≤ 31
  weight : 0 ≤ w ∧ w ≤ 16
  even : w = 8 ∨ k = "B"
  layer : 0 ≤ ly ∧ ly < S.layers
  edge : -6 ≤ ed ∧ ed ≤ 6
  deb : ed = 0 ∨ S.deblock = true
  slots : ∀ x ∈ st ++ rf, 0 ≤ x ∧ x < S.slots
  asc : st = sortSet st
  cnt : (rf.length : Int) ∈ dictG CNT k
def nB (S : St_Settings) (h : St_PictureHeader) : Bool :=
  (decide (0 ≤ h.number) && decide (h.number ≤ 999)) && (decide (h.kind ∈ ([("I" : Str), ("P" : Str), ("B" : Str)] : List Str)) && ((decide (0 ≤ h.level) && decide (h.level ≤ 31)) && ((decide (0 ≤ h.weight) && decide (h.weight ≤ 16)) && ((decide (h.weight = 8) || decide (V.str h.kind = V.str ("B" : Str))) && ((decide (0 ≤ h.layer) && decide (h.layer < S.layers)) && ((decide (-6 ≤ h.edge) && decide (h.edge ≤ 6)) && (decide (h.edge = 0) || S.deblock)))))))
theorem numbers_eq (S : St_Settings) (h : St_PictureHeader) : F__check_numbers S h = rq (nB S h) := by
  unfold F__check_numbers
  rw [rq_if]
  refine rq_bind _ _ ?_
  show F__check_numbers_k1 S h = _
  unfold F__check_numbers_k1
  rw [rq_req]
  have e : ∀ b : Bool, ((rq b).bind fun _ => Rx.ok ()) = rq b := fun b => by cases b <;> rfl
  rw [e]
  refine rq_bind _ _ ?_
  show F__check_numbers_k2 S h = _
  unfold F__check_numbers_k2
  rw [rq_if]
  refine rq_bind _ _ ?_
  show F__check_numbers_k3 S h = _
  unfold F__check_numbers_k3
  rw [rq_if]
  refine rq_bind _ _ ?_
  show F__check_numbers_k4 S h = _
  unfold F__check_numbers_k4
  rw [rq_or]
  refine rq_bind _ _ ?_
  show F__check_numbers_k5 S h = _
  unfold F__check_numbers_k5
  rw [rq_if]
  refine rq_bind _ _ ?_
  show F__check_numbers_k6 S h = _
  unfold F__check_numbers_k6
  rw [rq_if]
  refine rq_bind _ _ ?_
  show F__check_numbers_k7 S h = _
  unfold F__check_numbers_k7
  exact rq_or _ _
def sB (S : St_Settings) (x : Int) : Bool := decide (0 ≤ x) && decide (x < S.slots)
theorem loop_eq (S : St_Settings) : ∀ xs : List Int, forS xs () (fun _ x => F__check_slots_b1 S x) = rq (xs.all (sB S))
  | [] => rfl
  | x :: r => by
    rw [List.all_cons]
    show (F__check_slots_b1 S x).bind (fun _ => forS r () (fun _ x => F__check_slots_b1 S x)) = _
    have e : F__check_slots_b1 S x = rq (sB S x) := by
      unfold F__check_slots_b1
      rw [rq_req]
      show (rq (sB S x)).bind _ = _
      cases sB S x <;> rfl
    rw [e]
    exact rq_bind _ _ (loop_eq S r)
theorem slots_eq (S : St_Settings) (h : St_PictureHeader) (h1 : h.store.length ≤ 50) (h2 : h.refs.length ≤ 50) (hk : hasG CNT h.kind = true) :
    F__check_slots S h = rq ((h.store ++ h.refs).all (sB S) && (decide (h.store = sortSet h.store) && decide ((h.refs.length : Int) ∈ dictG CNT h.kind))) := by
  unfold F__check_slots
  rw [grd_pos (by omega), loop_eq]
  refine rq_bind _ _ ?_
  show F__check_slots_r1 h = _
  unfold F__check_slots_r1
  rw [grd_pos h1, rq_req]
  refine rq_bind _ _ ?_
  show grd (hasG CNT h.kind = true) _ = _
  rw [grd_pos hk, rq_req]
  show (rq (decide ((h.refs.length : Int) ∈ dictG CNT h.kind))).bind _ = _
  cases decide ((h.refs.length : Int) ∈ dictG CNT h.kind) <;> rfl
theorem kind_has {k : Str} (h : k ∈ ([("I" : Str), ("P" : Str), ("B" : Str)] : List Str)) : hasG CNT k = true := by
  simp only [List.mem_cons, List.not_mem_nil, or_false] at h
  rcases h with rfl | rfl | rfl <;> decide +kernel
section
variable {S : St_Settings} {n : Int} {k : Str} {l : Int} {st rf : List Int} {w ly ed : Int} {sh : Bool}
theorem nB_iff : nB S ⟨n, k, l, st, rf, w, ly, sh, ed⟩ = true ↔ (0 ≤ n ∧ n ≤ 999) ∧ k ∈ ([("I" : Str), ("P" : Str), ("B" : Str)] : List Str) ∧ (0 ≤ l ∧ l ≤ 31) ∧ (0 ≤ w ∧ w ≤ 16) ∧ (w = 8 ∨ k = "B") ∧ (0 ≤ ly ∧ ly < S.layers) ∧ (-6 ≤ ed ∧ ed ≤ 6) ∧ (ed = 0 ∨ S.deblock = true) := by
  have e : (V.str k = V.str ("B" : Str)) ↔ k = "B" := ⟨fun h => V.str.inj h, fun h => h ▸ rfl⟩
  unfold nB
  simp only [Bool.and_eq_true, Bool.or_eq_true, decide_eq_true_iff, e]
theorem hok_iff : (nB S ⟨n, k, l, st, rf, w, ly, sh, ed⟩ = true ∧ ((st ++ rf).all (sB S) && (decide (st = sortSet st) && decide ((rf.length : Int) ∈ dictG CNT k))) = true) ↔ HOk S n k l st rf w ly ed := by
  have e : ∀ x, sB S x = true ↔ (0 ≤ x ∧ x < S.slots) := fun x => by unfold sB; rw [Bool.and_eq_true, decide_eq_true_iff, decide_eq_true_iff]
  rw [nB_iff, Bool.and_eq_true, Bool.and_eq_true, decide_eq_true_iff, decide_eq_true_iff, List.all_eq_true]
  constructor
  · rintro ⟨⟨a, b, c, d, f, g, h, i⟩, j, m, o⟩
    exact ⟨a, b, c, d, f, g, h, i, fun x hx => (e x).mp (j x hx), m, o⟩
  · rintro ⟨a, b, c, d, f, g, h, i, j, m, o⟩
    exact ⟨⟨a, b, c, d, f, g, h, i⟩, fun x hx => (e x).mpr (j x hx), m, o⟩
theorem pic_ok (h1 : st.length ≤ 50) (h2 : rf.length ≤ 50) (h : HOk S n k l st rf w ly ed) : F_PictureHeader___init__ S n k l st rf w ly sh ed = .ok ⟨n, k, l, st, rf, w, ly, sh, ed⟩ := by
  have z := (hok_iff (sh := sh)).mpr h
  unfold F_PictureHeader___init__
  rw [numbers_eq, z.1, slots_eq S ⟨n, k, l, st, rf, w, ly, sh, ed⟩ h1 h2 (kind_has h.kind), z.2]
  rfl
theorem pic_er (h1 : st.length ≤ 50) (h2 : rf.length ≤ 50) (h : ¬ HOk S n k l st rf w ly ed) : F_PictureHeader___init__ S n k l st rf w ly sh ed = .er rqE := by
  unfold F_PictureHeader___init__
  rw [numbers_eq]
  cases e : nB S ⟨n, k, l, st, rf, w, ly, sh, ed⟩ with
  | false => rfl
  | true =>
    rw [slots_eq S ⟨n, k, l, st, rf, w, ly, sh, ed⟩ h1 h2 (kind_has (nB_iff.mp e).2.1)]
    cases e2 : ((st ++ rf).all (sB S) && (decide (st = sortSet st) && decide ((rf.length : Int) ∈ dictG CNT k))) with
    | false => rfl
    | true => exact absurd (hok_iff.mp ⟨e, e2⟩) h
end
/-! k57 -/
def cl3 (v lo hi : Int) : Int := if hi < (if lo > v then lo else v) then hi else (if lo > v then lo else v)
theorem clip3_eq (v lo hi : Int) : F_clip v lo hi = .ok (cl3 v lo hi) := rfl
theorem cl_mm {v lo hi : Int} (h : lo ≤ hi) : (if (if v < hi then v else hi) > lo then (if v < hi then v else hi) else lo) = cl3 v lo hi := by
  unfold cl3
  repeat' split
  all_goals omega
def ab (v : Int) : Int := if v < 0 then -v else v
def mv (a1 a0 b0 b1 l : Int) : Int := cl3 ((3 * (b0 - a0) + a1 - b1 + 4) / 8) (-l) l
def pr (a1 a0 b0 b1 l t : Int) : Int × Int := if (ab (a1 - a0) < l ∧ ab (b1 - b0) < l) ∧ ¬ 2 * l ≤ ab (a0 - b0) then (cl3 (a0 + mv a1 a0 b0 b1 l) 0 t, cl3 (b0 - mv a1 a0 b0 b1 l) 0 t) else (a0, b0)
theorem prog_pr (a1 a0 b0 b1 l t : Int) : F_smooth_edge a1 a0 b0 b1 l t = .ok (pr a1 a0 b0 b1 l t) := by
  unfold F_smooth_edge
  refine Gv.get (Gv.bnd fun f hf => ?_)
  unfold pr
  by_cases c1 : ab (a1 - a0) < l
  · by_cases c2 : ab (b1 - b0) < l
    · refine Gv.pos (by rw [hf]; show (decide (ab (a1 - a0) < l) && decide (ab (b1 - b0) < l)) = true; rw [decide_eq_true c1, decide_eq_true c2]; rfl) ?_
      by_cases c3 : 2 * l ≤ ab (a0 - b0)
      · refine Gv.pos c3 (.ok ?_)
        rw [if_neg fun z => z.2 c3]
      · refine Gv.neg c3 (Gv.bind_eq (clip3_eq _ _ _) (Gv.bind_eq (clip3_eq _ _ _) (Gv.bind_eq (clip3_eq _ _ _) (.ok ?_))))
        rw [if_pos ⟨⟨c1, c2⟩, c3⟩]
        rfl
    · refine Gv.neg (by rw [hf]; show ¬ (decide (ab (a1 - a0) < l) && decide (ab (b1 - b0) < l)) = true; rw [decide_eq_false c2, Bool.and_false]; decide) (.ok ?_)
      rw [if_neg fun z => c2 z.1.2]
  · refine Gv.neg (by rw [hf]; show ¬ (decide (ab (a1 - a0) < l) && decide (ab (b1 - b0) < l)) = true; rw [decide_eq_false c1, Bool.false_and]; decide) (.ok ?_)
    rw [if_neg fun z => c1 z.1.1]
theorem ab_pos (v : Int) : 0 ≤ ab v := by unfold ab; split <;> omega
theorem law_pr {a1 a0 b0 b1 l t : Int} (ht : 0 ≤ t) : F__law_pair a1 a0 b0 b1 l t = .ok (pr a1 a0 b0 b1 l t) := by
  unfold F__law_pair
  refine Gv.get ?_
  unfold pr
  refine Gv.ite (fun c1 => .ok ?_) fun c1 => Gv.ite (fun c2 => .ok ?_) fun c2 => Gv.ite (fun c3 => .ok ?_) fun c3 => Gv.bnd fun ch hch => .ok ?_
  · rw [if_neg fun z => by have := z.1.1; unfold ab at this; omega]
  · rw [if_neg fun z => by have := z.1.2; unfold ab at this; omega]
  · rw [if_neg fun z => z.2 c3]
  · have l0 := ab_pos (a1 - a0)
    unfold ab at l0
    rw [Int.zero_sub, cl_mm (by omega)] at hch
    have hch : ch = mv a1 a0 b0 b1 l := hch
    have k : (ab (a1 - a0) < l ∧ ab (b1 - b0) < l) ∧ ¬ 2 * l ≤ ab (a0 - b0) := ⟨⟨by unfold ab; omega, by unfold ab; omega⟩, c3⟩
    rw [hch, cl_mm ht, cl_mm ht, if_pos k]
/-- the limit between two blocks -/
def lm (f s : Int × Bool) (e : Int) : Int := if f.2 = true ∧ s.2 = true then 0 else stp ((f.1 + s.1) / 2) * (8 + e) / 16
def BOk (b : Int × Bool) : Prop := 0 ≤ b.1 ∧ b.1 ≤ 31
section
variable {f s : Int × Bool} {e : Int}
theorem plim_eq (hf : BOk f) (hs : BOk s) (he : -6 ≤ e ∧ e ≤ 6) : F__limit_between f s e = .ok (lm f s e) := by
  have m : 0 ≤ (f.1 + s.1) / 2 ∧ (f.1 + s.1) / 2 ≤ 31 := by obtain ⟨a, b⟩ := hf; obtain ⟨c, d⟩ := hs; omega
  have ee : F_edge_limit f.1 s.1 e = .ok (stp ((f.1 + s.1) / 2) * (8 + e) / 16) := by
    unfold F_edge_limit
    have := stp_b m.1 m.2
    rw [step_ok m.1 m.2, bind_ok, grd_pos (.inl ⟨by omega, by omega⟩)]
  unfold F__limit_between lm
  rw [ee]
  by_cases c1 : f.2 = true
  · rw [if_pos c1]
    by_cases c2 : s.2 = true
    · rw [if_pos c2, if_pos ⟨c1, c2⟩]
    · rw [if_neg c2, if_neg fun z => c2 z.2]
      rfl
  · rw [if_neg c1, if_neg fun z => c1 z.1]
    rfl
theorem llim_eq (hf : BOk f) (hs : BOk s) (he : -6 ≤ e ∧ e ≤ 6) : F__law_limit f s e = .ok (lm f s e) := by
  have m : 0 ≤ (f.1 + s.1) / 2 ∧ (f.1 + s.1) / 2 ≤ 31 := by obtain ⟨a, b⟩ := hf; obtain ⟨c, d⟩ := hs; omega
  have sb := stp_b m.1 m.2
  have ee : Gv (bnd ((f.1 + s.1) / 2) fun mean => grd ((-(2 ^ 64) < (mean : Int) ∧ (mean : Int) < 2 ^ 64) ∨ (-(2 ^ 64) < (mean : Int) ∧ (mean : Int) < 2 ^ 64)) <| grd ((-(2 ^ 64) < (((1 + mean) + ((mean * mean) / 4)) : Int) ∧ (((1 + mean) + ((mean * mean) / 4)) : Int) < 2 ^ 64) ∨ (-(2 ^ 64) < ((8 + e) : Int) ∧ ((8 + e) : Int) < 2 ^ 64)) <| .ok (((((1 + mean) + ((mean * mean) / 4)) * (8 + e)) / 16)) : Rx Int) (fun v => v = stp ((f.1 + s.1) / 2) * (8 + e) / 16) :=
    Gv.bnd fun mean hm => Gv.grd (.inl ⟨by omega, by omega⟩) (Gv.grd (.inr ⟨by omega, by omega⟩) (.ok (by rw [hm]; rfl)))
  refine Gv.get ?_
  unfold F__law_limit lm
  refine Gv.ite (fun c1 => Gv.ite (fun c2 => .ok (by rw [if_pos ⟨c1, c2⟩])) fun c2 => ?_) fun c1 => ?_
  · rw [if_neg fun z => c2 z.2]
    exact ee
  · rw [if_neg fun z => c1 z.1]
    exact ee
end
/-! k57 two -/
/-- a row filtered at the edges of d: the edge e stands at the column e * s -/
def sm (s t : Int) (lim : Int → Int) (r : Int → Int) (w : Int) (d : Int → Bool) (x : Int) : Int :=
  if ((x + 1) % s = 0 ∧ x + 1 < w) ∧ d ((x + 1) / s) = true then (pr (r (x - 1)) (r x) (r (x + 1)) (r (x + 2)) (lim ((x + 1) / s)) t).1
  else if (x % s = 0 ∧ 0 < x) ∧ d (x / s) = true then (pr (r (x - 2)) (r (x - 1)) (r x) (r (x + 1)) (lim (x / s)) t).2 else r x
section
variable {s t w e : Int} {lim r : Int → Int} {d : Int → Bool}
theorem sm_near (hs : s = 4 ∨ s = 8) (e1 : 1 ≤ e) (hd : d e = false) {k : Int} (hk : -2 ≤ k ∧ k ≤ 1) : sm s t lim r w d (e * s + k) = r (e * s + k) := by
  have n1 : ¬ (((e * s + k + 1) % s = 0 ∧ e * s + k + 1 < w) ∧ d ((e * s + k + 1) / s) = true) := by
    rintro ⟨⟨a, _⟩, b⟩
    have : (e * s + k + 1) / s = e := by rcases hs with rfl | rfl <;> omega
    rw [this, hd] at b
    cases b
  have n2 : ¬ (((e * s + k) % s = 0 ∧ 0 < e * s + k) ∧ d ((e * s + k) / s) = true) := by
    rintro ⟨⟨a, _⟩, b⟩
    have : (e * s + k) / s = e := by rcases hs with rfl | rfl <;> omega
    rw [this, hd] at b
    cases b
  unfold sm
  rw [if_neg n1, if_neg n2]
theorem sm_step (hs : s = 4 ∨ s = 8) (e1 : 1 ≤ e) (ew : e * s < w) (hd : d e = false) (x : Int) (x0 : 0 ≤ x) :
    (if x = e * s - 1 then (pr (r (e * s - 2)) (r (e * s - 1)) (r (e * s)) (r (e * s + 1)) (lim e) t).1 else if x = e * s then (pr (r (e * s - 2)) (r (e * s - 1)) (r (e * s)) (r (e * s + 1)) (lim e) t).2 else sm s t lim r w d x) = sm s t lim r w (fun k => d k || decide (k = e)) x := by
  have q1 : ∀ z : Int, z % s = 0 → z / s = e → z = e * s := fun z a b => by rcases hs with rfl | rfl <;> omega
  have q2 : ∀ z : Int, z = e * s → z % s = 0 ∧ z / s = e := fun z a => by rcases hs with rfl | rfl <;> omega
  by_cases c1 : x = e * s - 1
  · have z := q2 (x + 1) (by omega)
    rw [if_pos c1]
    unfold sm
    rw [if_pos ⟨⟨z.1, by omega⟩, by rw [z.2]; simp⟩, z.2, show x - 1 = e * s - 2 by omega, show x + 1 = e * s by omega, show x + 2 = e * s + 1 by omega, c1]
  · rw [if_neg c1]
    by_cases c2 : x = e * s
    · have z := q2 x c2
      have n1 : ¬ (x + 1) % s = 0 := fun a => by rcases hs with rfl | rfl <;> omega
      rw [if_pos c2]
      unfold sm
      rw [if_neg fun a => n1 a.1.1, if_pos ⟨⟨z.1, by rcases hs with rfl | rfl <;> omega⟩, by rw [z.2]; simp⟩, z.2, c2]
    · rw [if_neg c2]
      unfold sm
      have a1 : (((x + 1) % s = 0 ∧ x + 1 < w) ∧ d ((x + 1) / s) = true) ↔ (((x + 1) % s = 0 ∧ x + 1 < w) ∧ (d ((x + 1) / s) || decide ((x + 1) / s = e)) = true) := by
        constructor
        · rintro ⟨a, b⟩
          exact ⟨a, by rw [b]; rfl⟩
        · rintro ⟨a, b⟩
          refine ⟨a, ?_⟩
          by_cases q : (x + 1) / s = e
          · exact absurd (q1 _ a.1 q) (by omega)
          · rw [decide_eq_false q, Bool.or_false] at b
            exact b
      have a2 : ((x % s = 0 ∧ 0 < x) ∧ d (x / s) = true) ↔ ((x % s = 0 ∧ 0 < x) ∧ (d (x / s) || decide (x / s = e)) = true) := by
        constructor
        · rintro ⟨a, b⟩
          exact ⟨a, by rw [b]; rfl⟩
        · rintro ⟨a, b⟩
          refine ⟨a, ?_⟩
          by_cases q : x / s = e
          · exact absurd (q1 _ a.1 q) (by omega)
          · rw [decide_eq_false q, Bool.or_false] at b
            exact b
      simp only [a1, a2]
theorem sm_ext {d2 : Int → Bool} (hs : s = 4 ∨ s = 8) (h : ∀ k : Int, 1 ≤ k → k * s < w → d k = d2 k) {x : Int} (x0 : 0 ≤ x) (x1 : x < w) : sm s t lim r w d x = sm s t lim r w d2 x := by
  unfold sm
  have a1 : (((x + 1) % s = 0 ∧ x + 1 < w) ∧ d ((x + 1) / s) = true) ↔ (((x + 1) % s = 0 ∧ x + 1 < w) ∧ d2 ((x + 1) / s) = true) := by
    refine and_congr_right fun a => ?_
    rw [h ((x + 1) / s) (by rcases hs with rfl | rfl <;> omega) (by rcases hs with rfl | rfl <;> omega)]
  have a2 : ((x % s = 0 ∧ 0 < x) ∧ d (x / s) = true) ↔ ((x % s = 0 ∧ 0 < x) ∧ d2 (x / s) = true) := by
    refine and_congr_right fun a => ?_
    rw [h (x / s) (by rcases hs with rfl | rfl <;> omega) (by rcases hs with rfl | rfl <;> omega)]
  simp only [a1, a2]
theorem sm_off (x : Int) : sm s t lim r w (fun _ => false) x = r x := by
  unfold sm
  rw [if_neg (by simp), if_neg (by simp)]
end
theorem splice2 {f : Int → Int} {n : Nat} {X p q : Int} (h0 : 1 ≤ X) (h1 : X + 1 ≤ n) : spliceL ((rng 0 n).map f) (X - 1) (X + 1) [p, q] = (rng 0 n).map fun x => if x = X - 1 then p else if x = X then q else f x := by
  have e : ([p, q] : List Int) = (rng (X - 1) (Int.toNat (X + 1 - (X - 1)))).map fun y => if y = X - 1 then p else q := by
    rw [show Int.toNat (X + 1 - (X - 1)) = 2 by omega]
    show _ = [if X - 1 + ((0 : Nat) : Int) = X - 1 then p else q, if X - 1 + ((1 : Nat) : Int) = X - 1 then p else q]
    rw [if_pos (by omega), if_neg (by omega)]
  rw [e, splice_tab (by omega) (by omega) h1]
  refine tab_ext fun x x0 x1 => ?_
  by_cases a : x = X - 1
  · rw [if_pos (by omega), if_pos a, if_pos a]
  · by_cases b : x = X
    · rw [if_pos (by omega), if_neg a, if_neg a, if_pos b]
    · rw [if_neg (by omega), if_neg a, if_neg b]
/-- the samples about a column -/
theorem cut4 {f : Int → Int} {n : Nat} {X : Int} (h0 : 2 ≤ X) (h1 : X + 2 ≤ n) : cutL ((rng 0 n).map f) (some (X - 2)) (some (X + 2)) = (rng (X - 2) 4).map f := by
  have := cut_tab (f := f) (a := 0) (s := X - 2) (n := n) (k := 4) (by omega) (by omega)
  rw [show X - 2 + ((4 : Nat) : Int) = X + 2 by omega, Int.zero_add] at this
  exact this
theorem row_eq {s t : Int} {w : Nat} {nb : Nat} {r : Int → Int} {ls : List Int} (hs : s = 4 ∨ s = 8) (hw : (w : Int) = (nb + 1) * s) (hl : ls.length = nb) (hn : nb ≤ 100) :
    F__smooth_row ((rng 0 w).map r) ls s t = .ok ((rng 0 w).map fun x => sm s t (fun e => itD ls (e - 1)) r w (fun _ => true) x) := by
  refine Gv.get ?_
  unfold F__smooth_row
  refine Gv.bind (Gv.forS (P := fun i S => S = (rng 0 w).map fun x => sm s t (fun e => itD ls (e - 1)) r w (fun k => decide (k ≤ i)) x) ?_ fun i x S hx q => ?_) fun S q => .ok ?_
  · refine tab_ext fun x x0 x1 => ?_
    rw [sm_ext (d2 := fun _ => false) hs (fun k k0 _ => decide_eq_false (by omega)) x0 (by omega), sm_off]
  · have hi : i < ls.length := by
      have := get_len hx
      rwa [enumL_len] at this
    have e := enumL_get (List.getElem?_eq_getElem hi)
    rw [hx] at e
    obtain rfl := Option.some.inj e
    have ix : ls[i] = itD ls ((i : Int) + 1 - 1) := by rw [show (i : Int) + 1 - 1 = (i : Int) by omega]; exact (itDn hi).symm
    have bd : 2 ≤ ((i : Int) + 1) * s ∧ ((i : Int) + 1) * s + s ≤ (w : Int) := by rcases hs with rfl | rfl <;> omega
    subst q
    unfold F__smooth_row_b1
    refine Gv.grd (.inl ⟨by show -(2 ^ 64) < (i : Int) + 1; omega, by show (i : Int) + 1 < 2 ^ 64; omega⟩) (Gv.bnd fun X hX => ?_)
    have hX : X = ((i : Int) + 1) * s := hX
    have c4 := cut4 (f := fun x => sm s t (fun e => itD ls (e - 1)) r w (fun k => decide (k ≤ (i : Int))) x) (n := w) (X := X) (by omega) (by rcases hs with rfl | rfl <;> omega)
    rw [c4]
    have nr : ∀ k : Int, -2 ≤ k ∧ k ≤ 1 → sm s t (fun e => itD ls (e - 1)) r w (fun k => decide (k ≤ (i : Int))) (X + k) = r (X + k) := fun k hk => by
      rw [hX]
      exact sm_near hs (by omega) (decide_eq_false (by omega)) hk
    have at4 : ∀ j : Nat, j < 4 → itD ((rng (X - 2) 4).map fun x => sm s t (fun e => itD ls (e - 1)) r w (fun k => decide (k ≤ (i : Int))) x) (j : Int) = r (X + ((j : Int) - 2)) := fun j hj => by
      rw [rng_map_itD (by omega) (by omega), ← nr ((j : Int) - 2) (by omega)]
      congr 1
      omega
    refine Gv.grd (by rw [tab_len]) (Gv.bnd fun a1 h1 => Gv.bnd fun a0 h2 => Gv.bnd fun b0 h3 => Gv.bnd fun b1 h4 => Gv.bind_eq (prog_pr _ _ _ _ _ _) (Gv.grd ⟨by omega, by omega, by rw [tab_len]; rcases hs with rfl | rfl <;> omega, by rw [tab_len]; show w + 2 ≤ 1000000; rcases hs with rfl | rfl <;> omega⟩ (Gv.bnd fun y hy => .ok ?_)))
    have h1 : a1 = r (X - 2) := h1.trans ((at4 0 (by decide)).trans (by congr 1))
    have h2 : a0 = r (X - 1) := h2.trans ((at4 1 (by decide)).trans (by congr 1))
    have h3 : b0 = r X := h3.trans ((at4 2 (by decide)).trans (by congr 1; omega))
    have h4 : b1 = r (X + 1) := h4.trans ((at4 3 (by decide)).trans (by congr 1))
    rw [hy, h1, h2, h3, h4, splice2 (by omega) (by rcases hs with rfl | rfl <;> omega)]
    refine tab_ext fun x x0 x1 => ?_
    have st := sm_step (t := t) (lim := fun e => itD ls (e - 1)) (r := r) (w := w) (d := fun k => decide (k ≤ (i : Int))) (e := (i : Int) + 1) hs (by omega) (by rcases hs with rfl | rfl <;> omega) (decide_eq_false (by omega)) x x0
    rw [← hX] at st
    show (if x = X - 1 then (pr _ _ _ _ ls[i] t).1 else if x = X then (pr _ _ _ _ ls[i] t).2 else _) = _
    rw [ix, st]
    refine sm_ext hs (fun k _ _ => ?_) x0 (by omega)
    by_cases z : k ≤ (i : Int)
    · rw [decide_eq_true z, decide_eq_true (show k ≤ ((i + 1 : Nat) : Int) by omega)]; rfl
    · by_cases y : k = (i : Int) + 1
      · rw [decide_eq_true y, decide_eq_true (show k ≤ ((i + 1 : Nat) : Int) by omega), Bool.or_true]
      · rw [decide_eq_false z, decide_eq_false y, decide_eq_false (show ¬ k ≤ ((i + 1 : Nat) : Int) by omega)]; rfl
  · show S = _
    rw [q, enumL_len, hl]
    refine tab_ext fun x x0 x1 => sm_ext hs (fun k _ h => decide_eq_true ?_) x0 (by omega)
    rw [hw] at h
    rcases hs with rfl | rfl <;> omega
/-! k57 three -/
/-! ### planes -/
/-- the limit at an edge -/
def lmB (B : Int → Int → Int × Bool) (ed : Int) (j e : Int) : Int := lm (B j (e - 1)) (B j e) ed
/-- a plane filtered at its upright edges -/
def fl (B : Int → Int → Int × Bool) (ed s t : Int) (w : Nat) (u : Int → Int → Int) (y x : Int) : Int := sm s t (lmB B ed (y / s)) (u y) w (fun _ => true) x
def tab2 {α : Type} (h w : Nat) (u : Int → Int → α) : List (List α) := (rng 0 h).map fun y => (rng 0 w).map fun x => u y x
theorem tab2_len {α : Type} {h w : Nat} {u : Int → Int → α} : (tab2 h w u).length = h := tab_len
theorem tab2_at {α : Type} [Inhabited α] {h w : Nat} {u : Int → Int → α} {y : Int} (y0 : 0 ≤ y) (y1 : y < h) : itD (tab2 h w u) y = (rng 0 w).map fun x => u y x := tab_itD y0 y1
theorem tab2_at2 {α : Type} [Inhabited α] {h w : Nat} {u : Int → Int → α} {y x : Int} (y0 : 0 ≤ y) (y1 : y < h) (x0 : 0 ≤ x) (x1 : x < w) : itD (itD (tab2 h w u) y) x = u y x := by
  rw [tab2_at y0 y1, tab_itD x0 x1]
theorem tab2_of {α : Type} [Inhabited α] {M : List (List α)} {h w : Nat} (hl : M.length = h) (hr : ∀ r ∈ M, r.length = w) : M = tab2 h w fun y x => itD (itD M y) x := by
  conv => lhs; rw [list_tab hl]
  refine tab_ext fun y y0 y1 => ?_
  exact list_tab (hr _ (itD_mem (by omega)))
theorem tab2_ext2 {α : Type} {h w : Nat} {u v : Int → Int → α} (e : ∀ y x : Int, 0 ≤ y → y < h → 0 ≤ x → x < w → u y x = v y x) : tab2 h w u = tab2 h w v := tab_ext fun y y0 y1 => tab_ext fun x x0 x1 => e y x y0 y1 x0 x1
section
variable {B : Int → Int → Int × Bool} {ed : Int} {nb mb : Nat}
theorem limits_eq (hB : ∀ j i : Int, BOk (B j i)) (he : -6 ≤ ed ∧ ed ≤ 6) (hn : nb ≤ 100) (hm : mb ≤ 100) : F__limits (tab2 mb (nb + 1) B) ed = .ok (tab2 mb nb fun j i => lm (B j i) (B j (i + 1)) ed) := by
  unfold F__limits
  have e := mapA_pure0 (xs := tab2 mb (nb + 1) B) (f := fun x => noEr (F__limits_c1 ed x)) (g := fun r => (rng 0 nb).map fun i => lm (itD r i) (itD r (i + 1)) ed) (fun r hr => ?_) (by rw [tab2_len]; omega)
  · rw [e, bind_ok]
    refine congrArg Rx.ok ?_
    unfold tab2
    rw [List.map_map]
    refine tab_ext fun j j0 j1 => ?_
    show (rng 0 nb).map (fun i => lm (itD ((rng 0 (nb + 1)).map fun x => B j x) i) (itD ((rng 0 (nb + 1)).map fun x => B j x) (i + 1)) ed) = _
    refine tab_ext fun i i0 i1 => ?_
    rw [tab_itD i0 (by omega), tab_itD (by omega) (by omega)]
  · obtain ⟨j, _, rfl⟩ := List.mem_map.mp hr
    refine Gv.get (Gv.noEr ?_)
    unfold F__limits_c1
    rw [zip_tab]
    have e2 := mapA_pure0 (xs := (rng 0 nb).map fun c => (B j c, B j (c + 1))) (f := fun x => noEr (F__limits_c2 ed x)) (g := fun q => lm q.1 q.2 ed) (fun q hq => ?_) (by rw [tab_len]; omega)
    · refine Gv.bind_eq e2 (.ok ?_)
      rw [List.map_map]
      refine tab_ext fun i i0 i1 => ?_
      rw [tab_itD i0 (by omega), tab_itD (by omega) (by omega)]
      rfl
    · obtain ⟨c, _, rfl⟩ := List.mem_map.mp hq
      unfold F__limits_c2
      show noEr (Rx.bind (F__limit_between (B j c) (B j (c + 1)) ed) _) = _
      rw [plim_eq (hB _ _) (hB _ _) he]
      rfl
theorem rows_eq {s t : Int} {h w : Nat} {u : Int → Int → Int} (hs : s = 4 ∨ s = 8) (hw : (w : Int) = (nb + 1) * s) (hh : (h : Int) = mb * s) (hn : nb ≤ 100) (hm : mb ≤ 100) :
    F__smooth_rows (tab2 h w u) (tab2 mb nb fun j i => lm (B j i) (B j (i + 1)) ed) s t = .ok (tab2 h w (fl B ed s t w u)) := by
  unfold F__smooth_rows
  have hl : (enumL (tab2 h w u)).length = h := by rw [enumL_len, tab2_len]
  have ee : enumL (tab2 h w u) = (rng 0 h).map fun y => (y, (rng 0 w).map fun x => u y x) := by
    unfold enumL
    rw [tab2_len]
    unfold tab2
    have := zip_tab2 (f := fun y : Int => y) (g := fun y => (rng 0 w).map fun x => u y x) (a := 0) (n := h)
    rwa [List.map_id'] at this
  rw [ee]
  have e := mapA_pure0 (xs := (rng 0 h).map fun y => (y, (rng 0 w).map fun x => u y x)) (f := fun x => noEr (F__smooth_rows_c1 (tab2 mb nb fun j i => lm (B j i) (B j (i + 1)) ed) s t x)) (g := fun q => (rng 0 w).map fun x => fl B ed s t w u q.1 x) (fun q hq => ?_) (by rw [tab_len]; rcases hs with rfl | rfl <;> omega)
  · rw [e, bind_ok, List.map_map]
    rfl
  · obtain ⟨y, hy, rfl⟩ := List.mem_map.mp hq
    have m := rng_mem hy
    have yb : 0 ≤ y / s ∧ y / s < mb := by rcases hs with rfl | rfl <;> omega
    refine Gv.get (Gv.noEr ?_)
    unfold F__smooth_rows_c1
    refine Gv.grd ⟨by rcases hs with rfl | rfl <;> omega, by rcases hs with rfl | rfl <;> omega⟩ (Gv.grd (by rw [tab2_len]; show -(mb : Int) ≤ y / s ∧ y / s < (mb : Int); omega) ?_)
    show Gv (Rx.bind (F__smooth_row ((rng 0 w).map fun x => u y x) (itD (tab2 mb nb fun j i => lm (B j i) (B j (i + 1)) ed) (y / s)) s t) _) _
    rw [tab2_at yb.1 yb.2]
    refine Gv.bind_eq (row_eq (nb := nb) hs hw tab_len hn) (.ok ?_)
    refine tab_ext fun x x0 x1 => ?_
    show sm s t _ (u y) w (fun _ => true) x = sm s t (lmB B ed (y / s)) (u y) w (fun _ => true) x
    have lim : ∀ e : Int, 1 ≤ e → e * s < w → itD ((rng 0 nb).map fun i => lm (B (y / s) i) (B (y / s) (i + 1)) ed) (e - 1) = lmB B ed (y / s) e := fun e e1 ew => by
      rw [tab_itD (by omega) (by rcases hs with rfl | rfl <;> omega)]
      unfold lmB
      rw [show e - 1 + 1 = e by omega]
    unfold sm
    by_cases c1 : ((x + 1) % s = 0 ∧ x + 1 < w) ∧ true = true
    · rw [if_pos c1, if_pos c1]
      dsimp only
      rw [lim ((x + 1) / s) (by rcases hs with rfl | rfl <;> omega) (by rcases hs with rfl | rfl <;> omega)]
    · rw [if_neg c1, if_neg c1]
      by_cases c2 : (x % s = 0 ∧ 0 < x) ∧ true = true
      · rw [if_pos c2, if_pos c2]
        dsimp only
        rw [lim (x / s) (by rcases hs with rfl | rfl <;> omega) (by rcases hs with rfl | rfl <;> omega)]
      · rw [if_neg c2, if_neg c2]
end
/-! k57 four -/
section
variable {B : Int → Int → Int × Bool} {ed s t : Int} {h w nb mb : Nat}
theorem cols_eq {u : Int → Int → Int} (hs : s = 4 ∨ s = 8) (hw : (w : Int) = (nb + 1) * s) (hh : (h : Int) = mb * s) (hn : nb ≤ 100) (hm : 1 ≤ mb ∧ mb ≤ 100) (hB : ∀ j i : Int, BOk (B j i)) (he : -6 ≤ ed ∧ ed ≤ 6) (ht : 0 ≤ t) :
    F__law_columns (tab2 h w u) (tab2 mb (nb + 1) B) s ed t = .ok (tab2 h w (fl B ed s t w u)) := by
  have h0 : 0 < h := by rcases hs with rfl | rfl <;> omega
  have wb : w ≤ 808 := by rcases hs with rfl | rfl <;> omega
  have hb : h ≤ 800 := by rcases hs with rfl | rfl <;> omega
  refine Gv.get ?_
  unfold F__law_columns
  have e0 : ((itD (tab2 h w u) 0).length : Int) = w := by rw [tab2_at (by decide) (by omega), tab_len]
  rw [e0]
  have sn : stepN s w s = nb := by
    unfold stepN
    rcases hs with rfl | rfl <;> split <;> omega
  rw [sn]
  refine Gv.grd (by rw [tab2_len]; omega) (Gv.grd ⟨by rcases hs with rfl | rfl <;> omega, by omega, by rcases hs with rfl | rfl <;> omega⟩ (Gv.bind (Gv.forS (P := fun i S => S = tab2 h w fun y x => sm s t (lmB B ed (y / s)) (u y) w (fun k => decide (k ≤ i)) x) ?_ fun i x S hx q => ?_) fun S q => .ok ?_))
  · refine tab2_ext2 fun y x _ _ x0 x1 => ?_
    rw [sm_ext (d2 := fun _ => false) hs (fun k k0 _ => decide_eq_false (by omega)) x0 (by omega), sm_off]
  · have hi : i < nb := by
      have := get_len hx
      rwa [rngP_len] at this
    have hx2 := rngP_get (lo := s) (c := s) hi
    rw [hx] at hx2
    have hX : x = ((i : Int) + 1) * s := by
      rw [Option.some.inj hx2, Int.add_mul, Int.one_mul]
      omega
    have bd : 2 ≤ x ∧ x + s ≤ (w : Int) := by rw [hX]; rcases hs with rfl | rfl <;> omega
    have xe : x / s = (i : Int) + 1 := by rw [hX]; rcases hs with rfl | rfl <;> omega
    subst q
    unfold F__law_columns_b1
    rw [tab2_len, Int.toNat_natCast]
    refine Gv.grd ⟨by omega, by omega⟩ (Gv.bind (Gv.forS (P := fun j S => S = tab2 h w fun y x => sm s t (lmB B ed (y / s)) (u y) w (fun k => decide (k ≤ i) || (decide (k = (i : Int) + 1) && decide (y < j))) x) ?_ fun j y S hy q => ?_) fun S q => .ok ?_)
    · refine tab2_ext2 fun y x y0 _ x0 x1 => sm_ext hs (fun k _ _ => ?_) x0 (by omega)
      rw [decide_eq_false (show ¬ y < ((0 : Nat) : Int) by omega), Bool.and_false, Bool.or_false]
    · obtain ⟨hy, hj⟩ := rng_at hy
      rw [Int.zero_add] at hy
      subst hy
      have yb : 0 ≤ (j : Int) / s ∧ (j : Int) / s < mb := by rcases hs with rfl | rfl <;> omega
      have cond : (fun k : Int => decide (k ≤ (i : Int)) || (decide (k = (i : Int) + 1) && decide ((j : Int) < (j : Int)))) ((i : Int) + 1) = false := by
        show (decide ((i : Int) + 1 ≤ (i : Int)) || (decide ((i : Int) + 1 = (i : Int) + 1) && decide ((j : Int) < (j : Int)))) = false
        rw [decide_eq_false (by omega), decide_eq_false (show ¬ (j : Int) < (j : Int) by omega), Bool.and_false]
        rfl
      generalize hd : (fun (y : Int) (k : Int) => decide (k ≤ (i : Int)) || (decide (k = (i : Int) + 1) && decide (y < (j : Int)))) = D
      have hD : ∀ y k, (decide (k ≤ (i : Int)) || (decide (k = (i : Int) + 1) && decide (y < (j : Int)))) = D y k := fun y k => by rw [← hd]
      have q : S = tab2 h w fun y x => sm s t (lmB B ed (y / s)) (u y) w (D y) x := by rw [← hd]; exact q
      have cond : D (j : Int) ((i : Int) + 1) = false := by rw [← hD]; exact cond
      have rj : itD S (j : Int) = (rng 0 w).map fun x => sm s t (lmB B ed ((j : Int) / s)) (u (j : Int)) w (D (j : Int)) x := by rw [q]; exact tab2_at (by omega) (by omega)
      have rl : (itD S (j : Int)).length = w := by rw [rj, tab_len]
      have nr : ∀ k : Int, -2 ≤ k ∧ k ≤ 1 → itD (itD S (j : Int)) (x + k) = u j (x + k) := fun k hk => by
        rw [rj, tab_itD (by omega) (by rcases hs with rfl | rfl <;> omega), hX]
        exact sm_near hs (by omega) cond hk
      have Sl : S.length = h := by rw [q]; exact tab2_len
      have bl : ∀ z : Int, 0 ≤ z → z < nb + 1 → itD (itD (tab2 mb (nb + 1) B) ((j : Int) / s)) z = B ((j : Int) / s) z := fun z z0 z1 => tab2_at2 yb.1 yb.2 z0 (by omega)
      have blen : (itD (tab2 mb (nb + 1) B) ((j : Int) / s)).length = nb + 1 := by rw [tab2_at yb.1 yb.2, tab_len]
      have g1 : -(S.length : Int) ≤ (j : Int) ∧ (j : Int) < (S.length : Int) := by omega
      have g2 : 0 < s ∧ s < 2 ^ 128 := by rcases hs with rfl | rfl <;> decide
      have g3 : -((tab2 mb (nb + 1) B).length : Int) ≤ (j : Int) / s ∧ (j : Int) / s < ((tab2 mb (nb + 1) B).length : Int) := by rw [tab2_len]; omega
      have gx : ∀ k : Int, -2 ≤ k ∧ k ≤ 1 → -((itD S (j : Int)).length : Int) ≤ x + k ∧ x + k < ((itD S (j : Int)).length : Int) := fun k hk => by rw [rl]; rcases hs with rfl | rfl <;> omega
      unfold F__law_columns_b2
      rw [blen, xe]
      refine Gv.grd g1 (Gv.grd g2 (Gv.grd g3 (Gv.grd g2 (Gv.grd ⟨by omega, by omega⟩ (Gv.grd g2 (Gv.grd g3 (Gv.grd g2 (Gv.grd ⟨by omega, by omega⟩ ?_))))))))
      rw [bl _ (by omega) (by omega), bl _ (by omega) (by omega)]
      have e2 := nr (-2) (by decide)
      have e1 := nr (-1) (by decide)
      have e3 := nr 0 (by decide)
      have e4 := nr 1 (by decide)
      rw [show x + -2 = x - 2 by omega] at e2
      rw [show x + -1 = x - 1 by omega] at e1
      rw [Int.add_zero] at e3
      refine Gv.bind_eq (a := lm (B ((j : Int) / s) ((i : Int) + 1 - 1)) (B ((j : Int) / s) ((i : Int) + 1)) ed) (by rw [llim_eq (hB _ _) (hB _ _) he]; rfl) ?_
      rw [e2, e1, e3, e4]
      have G2 := gx (-2) (by decide)
      have G1 := gx (-1) (by decide)
      have G0 := gx 0 (by decide)
      have Gp := gx 1 (by decide)
      rw [show x + -2 = x - 2 by omega] at G2
      rw [show x + -1 = x - 1 by omega] at G1
      rw [Int.add_zero] at G0
      refine Gv.grd G2 (Gv.grd G1 (Gv.grd G0 (Gv.grd Gp (Gv.bind_eq (a := pr (u j (x - 2)) (u j (x - 1)) (u j x) (u j (x + 1)) (lm (B ((j : Int) / s) ((i : Int) + 1 - 1)) (B ((j : Int) / s) ((i : Int) + 1)) ed) t) (by rw [law_pr ht]; rfl) ?_))))
      refine Gv.grd G1 (Gv.bnd fun y1 hy1 => ?_)
      have i1 : itD y1 (j : Int) = setL (itD S (j : Int)) (x - 1) (pr (u j (x - 2)) (u j (x - 1)) (u j x) (u j (x + 1)) (lm (B ((j : Int) / s) ((i : Int) + 1 - 1)) (B ((j : Int) / s) ((i : Int) + 1)) ed) t).1 := by rw [hy1]; exact set_at (by omega) g1.2
      refine Gv.grd (by rw [i1, setL_len]; exact G0) (Gv.bnd fun y2 hy2 => .ok ?_)
      rw [hy2, i1, rj, set_tab (by omega) (by omega), set_tab (by omega) (by omega), hy1, q]
      unfold tab2
      rw [set_tab (by omega) (by omega), set_tab (by omega) (by omega)]
      refine tab_ext fun y y0 y1 => ?_
      have st := sm_step (t := t) (lim := lmB B ed ((j : Int) / s)) (r := u j) (w := w) (d := D j) (e := (i : Int) + 1) hs (by omega) (by rw [← hX]; rcases hs with rfl | rfl <;> omega) cond
      rw [← hX] at st
      by_cases yj : y = (j : Int)
      · subst yj
        rw [if_pos rfl]
        refine tab_ext fun z z0 z1 => ?_
        have s1 := st z z0
        have lx : lmB B ed ((j : Int) / s) ((i : Int) + 1) = lm (B ((j : Int) / s) ((i : Int) + 1 - 1)) (B ((j : Int) / s) ((i : Int) + 1)) ed := rfl
        rw [lx] at s1
        have sw : ∀ (p r v : Int), (if z = x then r else if z = x - 1 then p else v) = (if z = x - 1 then p else if z = x then r else v) := fun p r v => by
          by_cases a : z = x - 1
          · rw [if_pos a, if_pos a, if_neg (by omega)]
          · rw [if_neg a, if_neg a]
        rw [sw, s1]
        refine sm_ext hs (fun k _ _ => ?_) z0 (by omega)
        rw [← hD, decide_eq_true (show (j : Int) < ((j + 1 : Nat) : Int) by omega), decide_eq_false (show ¬ (j : Int) < (j : Int) by omega), Bool.and_false, Bool.or_false, Bool.and_true]
      · rw [if_neg yj, if_neg yj]
        refine tab_ext fun z z0 z1 => sm_ext hs (fun k _ _ => ?_) z0 (by omega)
        rw [← hD]
        by_cases a : y < (j : Int)
        · rw [decide_eq_true a, decide_eq_true (show y < ((j + 1 : Nat) : Int) by omega)]
        · rw [decide_eq_false a, decide_eq_false (show ¬ y < ((j + 1 : Nat) : Int) by omega)]
    · show S = _
      rw [q, rng_len]
      refine tab2_ext2 fun y z y0 y1 z0 z1 => sm_ext hs (fun k _ _ => ?_) z0 (by omega)
      rw [decide_eq_true (show y < ((h : Nat) : Int) from y1), Bool.and_true]
      by_cases a : k ≤ (i : Int)
      · rw [decide_eq_true a, decide_eq_true (show k ≤ ((i + 1 : Nat) : Int) by omega)]; rfl
      · by_cases b : k = (i : Int) + 1
        · rw [decide_eq_true b, decide_eq_true (show k ≤ ((i + 1 : Nat) : Int) by omega), Bool.or_true]
        · rw [decide_eq_false a, decide_eq_false b, decide_eq_false (show ¬ k ≤ ((i + 1 : Nat) : Int) by omega)]; rfl
  · show S = _
    rw [q, rngP_len]
    refine tab2_ext2 fun y z y0 y1 z0 z1 => ?_
    show sm s t (lmB B ed (y / s)) (u y) w _ z = sm s t (lmB B ed (y / s)) (u y) w (fun _ => true) z
    refine sm_ext hs (fun k _ hk => decide_eq_true ?_) z0 (by omega)
    rw [hw] at hk
    rcases hs with rfl | rfl <;> omega
end
/-! k57 five -/
section
variable {α : Type} [Inhabited α] {h w : Nat}
theorem tr_eq {u : Int → Int → Int} (h1 : 1 ≤ h ∧ h ≤ 1000000) (hw : w ≤ 1000000) : F_transposed (tab2 h w u) = .ok (tab2 w h fun x y => u y x) := by
  unfold F_transposed
  rw [grd_pos (by rw [tab2_len]; exact h1)]
  have e : zipRows (tab2 h w u) = tab2 w h fun x y => u y x := zip_rows (u := u) (a := 0) (b := 0) (n := w) (k := h) (by omega)
  rw [e, mapA_pure0 (f := fun x => noEr (F_transposed_c1 x)) (g := id) (fun x _ => rfl) (by rw [tab2_len]; omega), List.map_id]
  rfl
theorem minG_tab {u : Int → Int → α} (h1 : 1 ≤ h) : minLenG (tab2 h w u) = w := by
  have ne : tab2 h w u ≠ [] := fun z => by
    have := tab2_len (h := h) (w := w) (u := u)
    rw [z] at this
    simp at this
    omega
  obtain ⟨r, hr, e⟩ := minLenG_at ne
  obtain ⟨y, _, rfl⟩ := List.mem_map.mp hr
  rw [← e, tab_len]
theorem zipG_tab {d : α} {u : Int → Int → α} (h1 : 1 ≤ h) : zipG d (tab2 h w u) = tab2 w h fun x y => u y x := by
  unfold zipG
  rw [minG_tab h1]
  apply List.ext_getElem?
  intro i
  by_cases hi : i < w
  · rw [List.getElem?_map, List.getElem?_range hi]
    unfold tab2
    rw [rng_map_get hi]
    show some _ = some _
    congr 1
    unfold colG
    rw [List.map_map]
    refine tab_ext fun y _ _ => ?_
    show ((rng 0 w).map fun x => u y x).getD i d = _
    rw [List.getD_eq_getElem?_getD, rng_map_get hi]
    rfl
  · rw [List.getElem?_eq_none (by rw [List.length_map, List.length_range]; omega), List.getElem?_eq_none (by rw [tab2_len]; omega)]
end
theorem trb_eq {h w : Nat} {u : Int → Int → Int × Bool} (h1 : 1 ≤ h ∧ h ≤ 1000000) (hw : w ≤ 1000000) : F_transposed_v_b (tab2 h w u) = .ok (tab2 w h fun x y => u y x) := by
  unfold F_transposed_v_b
  rw [grd_pos (by rw [tab2_len]; exact h1), zipG_tab h1.1, mapA_pure0 (f := fun x => noEr (F_transposed_v_b_c1 x)) (g := id) (fun x _ => rfl) (by rw [tab2_len]; omega), List.map_id]
  rfl
theorem ltr_eq {h w : Nat} {u : Int → Int → Int} (h1 : 1 ≤ h ∧ h ≤ 1000000) (hw : w ≤ 1000000) : F__law_turned (tab2 h w u) = .ok (tab2 w h fun x y => u y x) := by
  have e0 : ((itD (tab2 h w u) 0).length : Int) = w := by rw [tab2_at (by decide) (by omega), tab_len]
  refine Gv.get ?_
  unfold F__law_turned
  rw [e0, Int.toNat_natCast, tab2_len]
  refine Gv.grd ⟨by omega, by omega⟩ (Gv.grd ⟨by omega, by omega⟩ (Gv.bind_eq (mapA_pure0 (g := fun x => (rng 0 h).map fun y => u y x) (fun x hx => ?_) (by rw [rng_len]; omega)) (.ok rfl)))
  have m := rng_mem hx
  refine Gv.get (Gv.noEr ?_)
  unfold F__law_turned_c1
  rw [tab2_len, Int.toNat_natCast]
  refine Gv.grd ⟨by omega, by omega⟩ (Gv.bind_eq (mapA_pure0 (g := fun y => u y x) (fun y hy => ?_) (by rw [rng_len]; omega)) (.ok rfl))
  have m2 := rng_mem hy
  refine Gv.get (Gv.noEr ?_)
  unfold F__law_turned_c2
  rw [tab2_at m2.1 (by omega), tab_itD m.1 (by omega), tab_len]
  exact Gv.grd (by rw [tab2_len]; omega) (Gv.grd (by omega) (.ok rfl))
theorem ltrb_eq {h w : Nat} {u : Int → Int → Int × Bool} (h1 : 1 ≤ h ∧ h ≤ 1000000) (hw : w ≤ 1000000) : F__law_turned_v_b (tab2 h w u) = .ok (tab2 w h fun x y => u y x) := by
  have e0 : ((itD (tab2 h w u) 0).length : Int) = w := by rw [tab2_at (by decide) (by omega), tab_len]
  refine Gv.get ?_
  unfold F__law_turned_v_b
  rw [e0, Int.toNat_natCast, tab2_len]
  refine Gv.grd ⟨by omega, by omega⟩ (Gv.grd ⟨by omega, by omega⟩ (Gv.bind_eq (mapA_pure0 (g := fun x => (rng 0 h).map fun y => u y x) (fun x hx => ?_) (by rw [rng_len]; omega)) (.ok rfl)))
  have m := rng_mem hx
  refine Gv.get (Gv.noEr ?_)
  unfold F__law_turned_v_b_c1
  rw [tab2_len, Int.toNat_natCast]
  refine Gv.grd ⟨by omega, by omega⟩ (Gv.bind_eq (mapA_pure0 (g := fun y => u y x) (fun y hy => ?_) (by rw [rng_len]; omega)) (.ok rfl))
  have m2 := rng_mem hy
  refine Gv.get (Gv.noEr ?_)
  unfold F__law_turned_v_b_c2
  rw [tab2_at m2.1 (by omega), tab_itD m.1 (by omega), tab_len]
  exact Gv.grd (by rw [tab2_len]; omega) (Gv.grd (by omega) (.ok rfl))
/-! k57 six -/
def sd (c k : Int) : Int := if 0 < k ∧ c = 1 then 4 else 8
theorem sd_in (c k : Int) : sd c k = 4 ∨ sd c k = 8 := by unfold sd; split <;> simp
def bw (h : Int) : Int := (h + 8 - 1) / 8
theorem hgt_eq {c h k : Int} : zp c (up h) k = bw h * sd c k := by
  unfold zp up bw sd
  split <;> omega
/-- a plane behind the filter -/
def dpl (B : Int → Int → Int × Bool) (ed s t : Int) (h w : Nat) (u : Int → Int → Int) (y x : Int) : Int := fl (fun j i => B i j) ed s t h (fun a b => fl B ed s t w u b a) x y
theorem fmt_top {w h d c : Int} (hd : 8 ≤ d ∧ d ≤ 12) : F_Format_top ⟨w, h, d, c⟩ = .ok (tp d) := by
  unfold F_Format_top
  exact Gv.get (Gv.grd ⟨by show 0 ≤ d; omega, by show d ≤ 4096; omega, one_4096⟩ (.ok rfl))
theorem side_eq {w h d c : Int} (k : Int) : F_block_side ⟨w, h, d, c⟩ k = .ok (sd c k) := by
  unfold F_block_side sd
  by_cases a : 0 < k
  · rw [if_pos a]
    show (if c = 1 then _ else _) = _
    by_cases b : c = 1
    · rw [if_pos b, if_pos ⟨a, b⟩]; rfl
    · rw [if_neg b, if_neg fun z => b z.2]
  · rw [if_neg a, if_neg fun z => a z.1]
theorem copyp_eq {R : List (List (List Int))} (hl : R.length ≤ 1000000) (h : ∀ M ∈ R, M.length ≤ 1000000) : F_copy_planes R = .ok R := by
  unfold F_copy_planes
  rw [mapA_pure0 (g := id) (fun M hM => ?_) hl, List.map_id]
  · rfl
  unfold F_copy_planes_c1
  rw [mapA_pure0 (f := fun x => noEr (F_copy_planes_c2 x)) (g := id) (fun r _ => rfl) (h M hM), List.map_id]
  rfl
/-- planes behind the filter -/
def DP (c w h ed t : Int) (B : Int → Int → Int × Bool) (P : List (List (List Int))) (k : Int) : List (List Int) := tab2 (zp c (up h) k).toNat (zp c (up w) k).toNat (dpl B ed (sd c k) t (zp c (up h) k).toNat (zp c (up w) k).toNat fun y x => itD (itD (itD P k) y) x)
section
variable {w h d c ed : Int} {P : List (List (List Int))} {B : Int → Int → Int × Bool} {nb mb : Nat}
theorem plane_tab (f : Fr c (up w) (up h) (tp d) P) {k : Int} (k0 : 0 ≤ k) (k1 : k < nn c) : itD P k = tab2 (zp c (up h) k).toNat (zp c (up w) k).toNat fun y x => itD (itD (itD P k) y) x := by
  have p := f.pl k k0 k1
  exact tab2_of (by have := p.2.2.1; omega) fun r hr => by have := p.2.2.2.1 r hr; omega
theorem plane_ok (f : Fr c (up w) (up h) (tp d) P) (hw : bw w = nb + 1) (hh : bw h = mb + 1) (hn : nb ≤ 99) (hm : mb ≤ 99) {k : Int} (k0 : 0 ≤ k) (k1 : k < nn c) :
    (((zp c (up w) k).toNat : Int) = (nb + 1) * sd c k ∧ ((zp c (up h) k).toNat : Int) = ((mb + 1 : Nat) : Int) * sd c k) ∧ (((zp c (up h) k).toNat : Int) = (mb + 1) * sd c k ∧ ((zp c (up w) k).toNat : Int) = ((nb + 1 : Nat) : Int) * sd c k) ∧ (1 ≤ (zp c (up h) k).toNat ∧ (zp c (up h) k).toNat ≤ 1000000) ∧ (1 ≤ (zp c (up w) k).toNat ∧ (zp c (up w) k).toNat ≤ 1000000) := by
  have a := hgt_eq (c := c) (h := w) (k := k)
  have b := hgt_eq (c := c) (h := h) (k := k)
  rw [hw] at a
  rw [hh] at b
  have S := sd_in c k
  generalize zp c (up w) k = X at a ⊢
  generalize zp c (up h) k = Y at b ⊢
  rcases S with e | e <;> rw [e] at a b ⊢ <;> omega
theorem deb_eq {hdr : St_PictureHeader} (f : Fr c (up w) (up h) (tp d) P) (hd : 8 ≤ d ∧ d ≤ 12) (hw : bw w = nb + 1) (hh : bw h = mb + 1) (hn : nb ≤ 99) (hm : mb ≤ 99) (hB : ∀ j i : Int, BOk (B j i)) (he : -6 ≤ ed ∧ ed ≤ 6) (hed : hdr.edge = ed) :
    F_deblock ⟨w, h, d, c⟩ hdr P (tab2 (mb + 1) (nb + 1) B) = .ok ((rng 0 (nn c)).map (DP c w h ed (tp d) B P)) := by
  have n0 := nn_in c
  have L1 := limits_eq (nb := nb) (mb := mb + 1) hB he (by omega) (by omega)
  have L2 := limits_eq (B := fun j i => B i j) (nb := mb) (mb := nb + 1) (fun j i => hB i j) he (by omega) (by omega)
  refine Gv.get ?_
  unfold F_deblock
  rw [hed]
  refine Gv.bind_eq L1 (Gv.bind_eq (trb_eq ⟨by omega, by omega⟩ (by omega)) (Gv.bind_eq L2 ?_))
  have ee : enumL P = (rng 0 (nn c)).map fun k => (k, itD P k) := by
    unfold enumL
    rw [f.len]
    have := zip_tab2 (f := fun y : Int => y) (g := fun k => itD P k) (a := 0) (n := nn c)
    rw [List.map_id', ← list_tab f.len] at this
    exact this
  rw [ee]
  have e := forS_list (xs := (rng 0 (nn c)).map fun k => (k, itD P k)) (f := fun s x => F_deblock_b1 ⟨w, h, d, c⟩ (tab2 (mb + 1) nb fun j i => lm (B j i) (B j (i + 1)) ed) (tab2 (nb + 1) mb fun j i => lm (B i j) (B (i + 1) j) ed) s x) (g := fun q => DP c w h ed (tp d) B P q.1) (fun S q hq hs => ?_) [] (by rw [tab_len]; show 0 + _ ≤ _; omega)
  · refine Gv.bind_eq e (.ok ?_)
    rw [List.map_map]
    rfl
  · obtain ⟨k, hk, rfl⟩ := List.mem_map.mp hq
    have m := rng_mem hk
    obtain ⟨⟨w1, h1⟩, ⟨h2, w2⟩, bh, bwd⟩ := plane_ok f hw hh hn hm m.1 (by omega)
    have tpe : noEr (F_Format_top ⟨w, h, d, c⟩) = .ok (tp d) := by rw [fmt_top hd]; rfl
    have S := sd_in c k
    refine Gv.get ?_
    unfold F_deblock_b1
    refine Gv.bind_eq (side_eq k) (Gv.bind_eq tpe ?_)
    show Gv (Rx.bind (F__smooth_rows (itD P k) _ _ _) _) _
    rw [plane_tab f m.1 (by omega)]
    refine Gv.bind_eq (rows_eq S w1 h1 (by omega) (by omega)) (Gv.bind_eq (tr_eq bh (by omega)) (Gv.bind_eq tpe (Gv.bind_eq (rows_eq (B := fun j i => B i j) S h2 w2 (by omega) (by omega)) (Gv.bind_eq (tr_eq bwd (by omega)) (Gv.grd hs (Gv.bnd fun z hz => .ok (hz.trans rfl)))))))
theorem due_eq (f : Fr c (up w) (up h) (tp d) P) (hd : 8 ≤ d ∧ d ≤ 12) (hw : bw w = nb + 1) (hh : bw h = mb + 1) (hn : nb ≤ 99) (hm : mb ≤ 99) (hB : ∀ j i : Int, BOk (B j i)) (he : -6 ≤ ed ∧ ed ≤ 6) :
    forS (rng 0 (nn c)) P (fun s x => F_law_b6 ⟨w, h, d, c⟩ ed (tab2 (mb + 1) (nb + 1) B) s x) = .ok ((rng 0 (nn c)).map (DP c w h ed (tp d) B P)) := by
  have n0 := nn_in c
  have ht : 0 ≤ tp d := by have := tp_in hd; omega
  refine Gv.get ((Gv.forS (P := fun i S => S = (rng 0 (nn c)).map fun k => if k < (i : Int) then DP c w h ed (tp d) B P k else itD P k) ?_ fun i x S hx q => ?_).imp fun S q => ?_)
  · conv => lhs; rw [list_tab f.len]
    exact tab_ext fun k k0 _ => by rw [if_neg (by omega)]
  · obtain ⟨rfl, hi⟩ := rng_at hx
    rw [Int.zero_add]
    have k0 : (0 : Int) ≤ (i : Int) := by omega
    have k1 : (i : Int) < nn c := by omega
    obtain ⟨⟨w1, h1⟩, ⟨h2, w2⟩, bh, bwd⟩ := plane_ok f hw hh hn hm k0 k1
    have tpe : noEr (F_Format_top ⟨w, h, d, c⟩) = .ok (tp d) := by rw [fmt_top hd]; rfl
    have S4 := sd_in c i
    have Sl : S.length = nn c := by rw [q]; exact tab_len
    have gi : -(S.length : Int) ≤ (i : Int) ∧ (i : Int) < (S.length : Int) := by omega
    have si : itD S (i : Int) = tab2 (zp c (up h) i).toNat (zp c (up w) i).toNat fun y x => itD (itD (itD P i) y) x := by
      rw [q, tab_itD k0 k1, if_neg (by omega)]
      exact plane_tab f k0 k1
    unfold F_law_b6
    refine Gv.bind_eq (a := sd c i) ?_ ?_
    · unfold sd
      by_cases a : 0 < (i : Int)
      · rw [if_pos a]
        show (if c = 1 then _ else _) = _
        by_cases b : c = 1
        · rw [if_pos b, if_pos ⟨a, b⟩]
        · rw [if_neg b, if_neg fun z => b z.2]
      · rw [if_neg a, if_neg fun z => a z.1]
    unfold F_law_k7
    rw [si]
    refine Gv.grd gi (Gv.bind_eq tpe (Gv.bind_eq (cols_eq S4 w1 h1 (by omega) ⟨by omega, by omega⟩ hB he ht) (Gv.bnd fun y1 hy1 => ?_)))
    have yl : y1.length = S.length := by rw [hy1, setL_len]
    have yi : itD y1 (i : Int) = tab2 (zp c (up h) i).toNat (zp c (up w) i).toNat (fl B ed (sd c i) (tp d) (zp c (up w) i).toNat fun y x => itD (itD (itD P i) y) x) := by rw [hy1]; exact set_at k0 gi.2
    rw [yi, yl]
    refine Gv.grd gi (Gv.bind_eq (ltr_eq bh (by omega)) (Gv.bind_eq (ltrb_eq ⟨by omega, by omega⟩ (by omega)) (Gv.bind_eq tpe (Gv.bind_eq (cols_eq (B := fun j i => B i j) S4 h2 w2 (by omega) ⟨by omega, by omega⟩ (fun j i => hB i j) he ht) (Gv.bind_eq (ltr_eq bwd (by omega)) (Gv.grd gi (Gv.bnd fun y2 hy2 => .ok ?_)))))))
    rw [hy2, hy1, q, set_tab k0 k1, set_tab k0 k1]
    refine tab_ext fun k a0 a1 => ?_
    by_cases e : k = (i : Int)
    · subst e
      rw [if_pos rfl, if_pos (by omega)]
      rfl
    · rw [if_neg e, if_neg e]
      by_cases e2 : k < (i : Int)
      · rw [if_pos e2, if_pos (by omega)]
      · rw [if_neg e2, if_neg (by omega)]
  · rw [q, rng_len]
    exact tab_ext fun k _ k1 => by rw [if_pos k1]
end
/-! k57 seven -/
/-- planes that may be changed -/
def GQ (n : Nat) (X : List (List (List Int))) : Prop := X.length = n ∧ ∀ M ∈ X, M.length ≤ 2000 ∧ ∀ r ∈ M, 0 < r.length
theorem gq_set {n : Nat} {X : List (List (List Int))} {k y z v : Int} (h : GQ n X) (k0 : 0 ≤ k) (k1 : k < n) (y0 : 0 ≤ y) (y1 : y < ((itD X k).length : Int)) : GQ n (setL X k (setL (itD X k) y (setL (itD (itD X k) y) z v))) ∧ (itD (setL X k (setL (itD X k) y (setL (itD (itD X k) y) z v))) k).length = (itD X k).length := by
  have g : -(X.length : Int) ≤ k ∧ k < (X.length : Int) := by have := h.1; omega
  have p := h.2 _ (itD_mem g)
  have gy : -((itD X k).length : Int) ≤ y ∧ y < ((itD X k).length : Int) := by omega
  have pr := p.2 _ (itD_mem gy)
  refine ⟨⟨by rw [setL_len]; exact h.1, fun M hM => ?_⟩, by rw [set_at k0 g.2, setL_len]⟩
  rcases setL_mem hM with hM | rfl
  · exact h.2 M hM
  · refine ⟨by rw [setL_len]; exact p.1, fun r hr => ?_⟩
    rcases setL_mem hr with hr | rfl
    · exact p.2 r hr
    · rw [setL_len]; exact pr
theorem b9_gv {n : Nat} {X : List (List (List Int))} {k y : Int} (h : GQ n X) (k0 : 0 ≤ k) (k1 : k < n) (y0 : 0 ≤ y) (y1 : y < ((itD X k).length : Int)) : Gv (F_law_b9 k X y) (fun Y => GQ n Y ∧ (itD Y k).length = (itD X k).length) := by
  have g : -(X.length : Int) ≤ k ∧ k < (X.length : Int) := by have := h.1; omega
  have p := h.2 _ (itD_mem g)
  have gy : -((itD X k).length : Int) ≤ y ∧ y < ((itD X k).length : Int) := by omega
  have pr := p.2 _ (itD_mem gy)
  have s1 := gq_set (z := 0) (v := -1) h k0 k1 y0 y1
  unfold F_law_b9
  refine Gv.grd g (Gv.grd gy (Gv.grd ⟨by omega, by omega⟩ (Gv.bnd fun a ha => Gv.bnd fun b hb => ?_)))
  rw [ha] at hb
  rw [← hb] at s1
  have g2 : -(b.length : Int) ≤ k ∧ k < (b.length : Int) := by have := s1.1.1; omega
  have gy2 : -((itD b k).length : Int) ≤ y ∧ y < ((itD b k).length : Int) := by rw [s1.2]; exact gy
  have pr2 := (s1.1.2 _ (itD_mem g2)).2 _ (itD_mem gy2)
  have s2 := gq_set (z := ((itD (itD b k) y).length : Int) - 1) (v := -1) s1.1 k0 k1 y0 (by rw [s1.2]; exact y1)
  refine Gv.grd g2 (Gv.grd gy2 (Gv.grd g2 (Gv.grd gy2 (Gv.grd ⟨by omega, by omega⟩ (Gv.bnd fun e he => Gv.bnd fun q hq => .ok ?_)))))
  rw [he] at hq
  rw [← hq] at s2
  exact ⟨s2.1, s2.2.trans s1.2⟩
theorem b8_gv {n : Nat} {X : List (List (List Int))} {k : Int} (h : GQ n X) (k0 : 0 ≤ k) (k1 : k < n) : Gv (F_law_b8 X k) (GQ n) := by
  have g : -(X.length : Int) ≤ k ∧ k < (X.length : Int) := by have := h.1; omega
  have p := h.2 _ (itD_mem g)
  unfold F_law_b8
  refine Gv.grd g (Gv.grd ⟨by omega, by omega⟩ (Gv.bind (Gv.forS (P := fun _ Y => GQ n Y ∧ (itD Y k).length = (itD X k).length) ⟨h, rfl⟩ fun i x s hx q => ?_) fun s q => .ok q.1))
  obtain ⟨rfl, hi⟩ := rng_at hx
  rw [Int.toNat_natCast] at hi
  exact (b9_gv q.1 k0 k1 (by omega) (by rw [q.2]; omega)).imp fun Y z => ⟨z.1, z.2.trans q.2⟩
theorem law_true (script : List Int) (hs : script.length ≤ 63) : F_law script = .ok true := by
  refine Gv.get ?_
  unfold F_law
  refine Gv.bind (cell_gv _ _ (by decide)) fun v0 _ => Gv.bind (digits_gv _ _ _ (by decide) (by decide) (by decide) (by decide)) fun ds hds => ?_
  have gi : ∀ k : Int, 0 ≤ k → k < 6 → -(ds.length : Int) ≤ k ∧ k < (ds.length : Int) := fun k _ _ => by have := hds.1; omega
  have m : ∀ k : Int, 0 ≤ k → k < 6 → 0 ≤ itD ds k := fun k a b => (hds.2 _ (itD_mem (gi k a b))).1
  have m0 := m 0 (by decide) (by decide)
  have m1 := m 1 (by decide) (by decide)
  have m2 := m 2 (by decide) (by decide)
  have m3 := m 3 (by decide) (by decide)
  have m4 := m 4 (by decide) (by decide)
  have m5 := m 5 (by decide) (by decide)
  have g0 := gi 0 (by decide) (by decide)
  have g1 := gi 1 (by decide) (by decide)
  refine Gv.grd g0 (Gv.bnd fun W hW => Gv.grd g1 (Gv.bnd fun H hH => Gv.bind (P := fun p : Int × Int => (1 ≤ p.1 ∧ p.1 ≤ 48) ∧ (1 ≤ p.2 ∧ p.2 ≤ 48)) (Gv.grd g0 (Gv.ite (fun _ => Gv.grd g0 (Gv.bnd fun a ha => Gv.grd g1 (Gv.bnd fun b hb => .ok ⟨by omega, by omega⟩))) fun _ => .ok ⟨by omega, by omega⟩)) ?_))
  rintro ⟨w', h'⟩ ⟨hw', hh'⟩
  unfold F_law_k1
  refine Gv.bind (P := fun p : Int × Int => (1 ≤ p.1 ∧ p.1 ≤ 48) ∧ (1 ≤ p.2 ∧ p.2 ≤ 48)) (Gv.grd g0 (Gv.ite (fun _ => Gv.grd g0 (Gv.bnd fun a ha => Gv.grd g1 (Gv.bnd fun b hb => .ok ⟨by omega, by omega⟩))) fun _ => .ok ⟨hw', hh'⟩)) ?_
  rintro ⟨w, h⟩ ⟨hw, hh⟩
  show Gv (F_law_k2 script ds w h) _
  unfold F_law_k2
  refine Gv.grd (gi 2 (by decide) (by decide)) (Gv.grd (gi 3 (by decide) (by decide)) ?_)
  have hd : 8 ≤ 8 + itD ds 2 % 5 ∧ 8 + itD ds 2 % 5 ≤ 12 := by omega
  have hc : 0 ≤ itD ds 3 % 3 ∧ itD ds 3 % 3 ≤ 2 := by omega
  have he : -6 ≤ itD ds 4 % 13 - 6 ∧ itD ds 4 % 13 - 6 ≤ 6 := by omega
  have hlv : 0 ≤ itD ds 5 % 32 ∧ itD ds 5 % 32 ≤ 31 := by omega
  have g4 := gi 4 (by decide) (by decide)
  have g5 := gi 5 (by decide) (by decide)
  generalize 8 + itD ds 2 % 5 = d at hd ⊢
  generalize itD ds 3 % 3 = c at hc ⊢
  generalize itD ds 4 % 13 - 6 = ed' at he ⊢
  generalize itD ds 5 % 32 = lv at hlv ⊢
  simp only at hw hh
  have ht := tp_in hd
  have n0 := nn_in c
  have uw : 8 ≤ up w ∧ up w ≤ 64 := by unfold up; omega
  have uh : 8 ≤ up h ∧ up h ≤ 64 := by unfold up; omega
  obtain ⟨nb, hnb⟩ : ∃ n : Nat, bw w = n + 1 := ⟨(bw w - 1).toNat, by unfold bw; omega⟩
  obtain ⟨mb, hmb⟩ : ∃ n : Nat, bw h = n + 1 := ⟨(bw h - 1).toNat, by unfold bw; omega⟩
  have nb5 : nb ≤ 5 := by unfold bw at hnb; omega
  have mb5 : mb ≤ 5 := by unfold bw at hmb; omega
  have ff : F_Format___init__ w h d c = .ok ⟨w, h, d, c⟩ := by
    unfold F_Format___init__
    refine Gv.get ?_
    refine Gv.pos (by omega) (Gv.pos (by omega) (Gv.pos (by omega) (Gv.pos (by omega) (Gv.pos (by omega) (Gv.pos (by omega) (Gv.pos (by omega) (Gv.pos (by omega) (.ok rfl))))))))
  have fs : F_Settings___init__ ⟨w, h, d, c⟩ 1 1 true false 1 = .ok ⟨⟨w, h, d, c⟩, 1, 1, true, false, 1⟩ := rfl
  refine Gv.bind_eq ff (Gv.bind_eq fs (Gv.grd g4 (Gv.bnd fun ed hed => Gv.grd g5 ?_)))
  subst hed
  have hp : F_PictureHeader___init__ ⟨⟨w, h, d, c⟩, 1, 1, true, false, 1⟩ 0 ("I" : Str) lv [] [] 8 0 true ed = .ok ⟨0, "I", lv, [], [], 8, 0, true, ed⟩ :=
    pic_ok (by decide) (by decide) ⟨by decide, by decide, hlv, by decide, .inl rfl, ⟨Int.le_refl 0, by show (0 : Int) < 1; decide⟩, he, .inr rfl, (fun x hx => nomatch hx), by decide +kernel, by decide +kernel⟩
  refine Gv.bind_eq hp (Gv.bind_eq (a := (bw w, bw h)) rfl (Gv.bind (cell_gv _ _ (by decide)) fun v1 hv1 => Gv.grd (.inl ⟨by show -(2 ^ 64) < bw w; omega, by show bw w < 2 ^ 64; omega⟩) ?_))
  show Gv (Rx.bind (F__law_digits v1 2520 (bw w * bw h)) _) _
  have area : 0 ≤ bw w * bw h ∧ bw w * bw h ≤ 36 := by
    rw [hnb, hmb]
    exact ⟨Int.mul_nonneg (by omega) (by omega), by have := Int.mul_le_mul (show (nb : Int) + 1 ≤ 6 by omega) (show (mb : Int) + 1 ≤ 6 by omega) (by omega) (by decide); omega⟩
  refine Gv.bind (digits_gv _ _ _ (by decide) (by decide) area.1 (by omega)) fun bd hbd => Gv.grd ⟨by show -(2 ^ 62) ≤ bw h; omega, by show bw h < 2 ^ 62; omega⟩ ?_
  show Gv (Rx.bind (forS (rng 0 (Int.toNat (bw h))) _ _) _) _
  refine Gv.bind (Gv.forS (P := fun i s => s.length = i ∧ ∀ r ∈ s, r.length = nb + 1 ∧ ∀ b ∈ r, BOk b) ⟨rfl, fun x hx => nomatch hx⟩ fun i x s hx q => ?_) fun BL q => ?_
  · obtain ⟨rfl, hi⟩ := rng_at hx
    have hi2 : i < mb + 1 := by omega
    unfold F_law_b3
    refine Gv.grd ⟨by show -(2 ^ 62) ≤ bw w; omega, by show bw w < 2 ^ 62; omega⟩ ?_
    show Gv (Rx.bind (forS (rng 0 (Int.toNat (bw w))) _ _) _) _
    refine Gv.bind (Gv.forS (P := fun j r => r.length = j ∧ ∀ b ∈ r, BOk b) ⟨rfl, fun x hx => nomatch hx⟩ fun j y r hy p => ?_) fun r p => ?_
    · obtain ⟨rfl, hj⟩ := rng_at hy
      have hj2 : j < nb + 1 := by omega
      unfold F_law_b4
      have pos : (0 + (i : Int)) * bw w ≤ mb * bw w := Int.mul_le_mul_of_nonneg_right (by omega) (by omega)
      have pos0 : 0 ≤ (0 + (i : Int)) * bw w := Int.mul_nonneg (by omega) (by omega)
      have ar : bw w * bw h = mb * bw w + bw w := by rw [hmb, Int.mul_add, Int.mul_one, Int.mul_comm]
      have gb : -(bd.length : Int) ≤ (0 + (i : Int)) * bw w + (0 + (j : Int)) ∧ (0 + (i : Int)) * bw w + (0 + (j : Int)) < (bd.length : Int) := by rw [hbd.1]; omega
      refine Gv.grd (.inl ⟨by omega, by omega⟩) (Gv.grd gb (Gv.bnd fun dr hdr => Gv.bnd fun l hl => Gv.bind (P := fun l : Int => 0 ≤ l ∧ l ≤ 31) (Gv.ite (fun _ => .ok (by decide)) fun _ => .ok (by have := (hbd.2 _ (itD_mem gb)).1; omega)) fun l2 hl2 => ?_))
      unfold F_law_k5
      refine Gv.grd (by rw [p.1]; omega) (Gv.bnd fun z hz => .ok ?_)
      subst hz
      refine ⟨by rw [List.length_append, p.1]; rfl, fun b hb => ?_⟩
      rcases List.mem_append.mp hb with hb | hb
      · exact p.2 b hb
      · rw [List.mem_singleton.mp hb]
        exact hl2
    · rw [rng_len] at p
      unfold F_law_r4
      refine Gv.grd (by rw [q.1]; omega) (Gv.bnd fun z hz => .ok ?_)
      subst hz
      refine ⟨by rw [List.length_append, q.1]; rfl, fun b hb => ?_⟩
      rcases List.mem_append.mp hb with hb | hb
      · exact q.2 b hb
      · rw [List.mem_singleton.mp hb]
        exact ⟨by rw [p.1]; omega, p.2⟩
  rw [rng_len] at q
  have ql : BL.length = mb + 1 := by rw [q.1]; omega
  obtain ⟨B, hB, eB⟩ : ∃ B : Int → Int → Int × Bool, (∀ j i, BOk (B j i)) ∧ BL = tab2 (mb + 1) (nb + 1) B := by
    refine ⟨fun j i => if (0 ≤ j ∧ j < mb + 1) ∧ (0 ≤ i ∧ i < nb + 1) then itD (itD BL j) i else (0, false), fun j i => ?_, ?_⟩
    · show BOk (if _ then _ else _)
      split
      · rename_i g
        have r := q.2 _ (itD_mem (xs := BL) (k := j) (by rw [ql]; omega))
        exact r.2 _ (itD_mem (by rw [r.1]; omega))
      · exact ⟨by decide, by decide⟩
    · conv => lhs; rw [tab2_of ql fun r hr => (q.2 r hr).1]
      exact tab2_ext2 fun y x y0 y1 x0 x1 => by rw [if_pos ⟨⟨y0, by omega⟩, x0, by omega⟩]
  have bsm : Sm 20000 4 (encL (encL (encT2 PyData.int PyData.bool)) BL) := (sm_L (m := 6) (fun r hr => sm_L (m := 6) (fun b hb => sm_T2 (sm_int (by have := (q.2 r hr).2 b hb; obtain ⟨x, y⟩ := this; omega)) (sm_bool _)) (by have := (q.2 r hr).1; omega)) (by omega)).imp (by decide) (by decide)
  unfold F_law_r3
  refine Gv.bind (cell_gv _ _ (by decide)) fun v2 hv2 => Gv.bind_eq (a := tp d) (by rw [fmt_top hd]; rfl) (Gv.bind (lplanes_gv ⟨hw.1, by omega⟩ ⟨hh.1, by omega⟩ ⟨by omega, ht.2⟩ hv2) fun P f => ?_)
  have sh : ShowOk (encL encD [encL (encL (encL PyData.int)) P, encL (encL (encT2 PyData.int PyData.bool)) BL]) := by
    have a : Sm 20000 4 (encL (encL (encL PyData.int)) P) := (fr_sm f ⟨by omega, uw.2⟩ ⟨by omega, uh.2⟩ ht.2).imp (by decide) (by decide)
    refine (sm_L (f := encD) (n := 20000) (k := 4) (m := 2) (xs := [encL (encL (encL PyData.int)) P, encL (encL (encT2 PyData.int PyData.bool)) BL]) (fun x hx => ?_) (Nat.le_refl 2)).show
    simp only [List.mem_cons, List.not_mem_nil, or_false] at hx
    rcases hx with rfl | rfl
    · exact a
    · exact bsm
  have pe : noEr (F_Format_planes ⟨w, h, d, c⟩) = .ok ((nn c : Nat) : Int) := by rw [planes_eq]; rfl
  have cp : F_copy_planes P = .ok P := copyp_eq (by have := f.len; omega) fun M hM => by
    obtain ⟨k, k0, k1, rfl⟩ := fr_mem f hM
    have z2 := zp_in (c := c) (pl := k) uh (by omega)
    have := (f.pl k k0 k1).2.2.1
    omega
  have due := due_eq (B := B) (ed := ed) f hd hnb hmb (by omega) (by omega) hB he
  have deb := deb_eq (B := B) (ed := ed) (hdr := ⟨0, "I", lv, [], [], 8, 0, true, ed⟩) f hd hnb hmb (by omega) (by omega) hB he rfl
  rw [← eB] at due deb
  refine Gv.grd sh (Gv.bind_eq cp (Gv.bind_eq pe (Gv.grd ⟨by omega, by omega⟩ ?_)))
  rw [Int.toNat_natCast]
  refine Gv.bind_eq due ?_
  unfold F_law_r6
  have gq : GQ (nn c) ((rng 0 (nn c)).map (DP c w h ed (tp d) B P)) := by
    refine ⟨tab_len, fun M hM => ?_⟩
    obtain ⟨k, hk, rfl⟩ := List.mem_map.mp hM
    have mk := rng_mem hk
    have z1 := zp_in (c := c) (pl := k) uw (by omega)
    have z2 := zp_in (c := c) (pl := k) uh (by omega)
    unfold DP
    refine ⟨by rw [tab2_len]; omega, fun r hr => ?_⟩
    obtain ⟨y, _, rfl⟩ := List.mem_map.mp hr
    rw [tab_len]
    omega
  refine Gv.bind_eq deb (Gv.grd sh (Gv.pos rfl (Gv.pos rfl (Gv.bind_eq pe (Gv.grd ⟨by omega, by omega⟩ (Gv.bind (Gv.forS (P := fun _ => GQ (nn c)) gq fun i x s hx q2 => ?_) fun s q2 => ?_))))))
  · obtain ⟨rfl, hi⟩ := rng_at hx
    rw [Int.toNat_natCast] at hi
    exact b8_gv q2 (by omega) (by omega)
  unfold F_law_r8
  exact Gv.grd sh (Gv.pos (by simp) (Gv.bind_eq deb (.ok (by simp))))

end Vx
namespace Vx
open PySem PySem.Spec PyProof.Rows L2
def topS (i : Nat) : Stmt := PySem.Challenge.pw_thaumatrope_k57_whole_pictures_deblocked.main.body.getD i (.Pass ⟨0, 0, 0, 0⟩)
abbrev s__law_digits : Stmt := topS 40
abbrev s_Format___init__ : Stmt := inClass (topS 10) 0
abbrev s__require : Stmt := topS 35
abbrev s_Settings___init__ : Stmt := inClass (topS 33) 0
abbrev s__check_numbers : Stmt := topS 36
abbrev s__check_slots : Stmt := topS 37
abbrev s_PictureHeader___init__ : Stmt := inClass (topS 34) 0
abbrev s_Format_planes : Stmt := inClass (topS 10) 2
abbrev s_Format_blocks : Stmt := inClass (topS 10) 7
abbrev s_Format__plane_size : Stmt := inClass (topS 10) 10
abbrev s_Format_coded_size : Stmt := inClass (topS 10) 6
abbrev s__law_planes : Stmt := topS 41
abbrev s_copy_planes : Stmt := topS 11
abbrev s_step_of : Stmt := topS 16
abbrev s_edge_limit : Stmt := topS 20
abbrev s__limit_between : Stmt := topS 24
abbrev s__limits : Stmt := topS 23
abbrev s_transposed : Stmt := topS 18
abbrev s_transposed_v_b : Stmt := topS 18
abbrev s_block_side : Stmt := topS 13
abbrev s_clip : Stmt := topS 2
abbrev s_smooth_edge : Stmt := topS 21
abbrev s__smooth_row : Stmt := topS 26
abbrev s__smooth_rows : Stmt := topS 25
abbrev s_Format_top : Stmt := inClass (topS 10) 4
abbrev s_deblock : Stmt := topS 22
abbrev s__law_cell : Stmt := topS 39
abbrev s__law_limit : Stmt := topS 42
abbrev s__law_pair : Stmt := topS 43
abbrev s__law_columns : Stmt := topS 44
abbrev s__law_turned : Stmt := topS 45
abbrev s__law_turned_v_b : Stmt := topS 45
abbrev s_law : Stmt := topS 46
structure Ads where
  td_PictureHeader___init___store : Addr
  td_PictureHeader___init___refs : Addr
  c_Format : Addr
  c_Settings : Addr
  c_PictureHeader : Addr
  x_CodecError : Addr
  x_BadFormat : Addr
  x_OutOfRange : Addr
  x_BadHeader : Addr
  t_KINDS : Addr
  t_REF_COUNTS : Addr
  t_REF_COUNTS_0 : Addr
  t_REF_COUNTS_1 : Addr
  t_REF_COUNTS_2 : Addr
  z0 : Addr
def excA (AD : Ads) : Nat → Addr
  | 0 => AD.x_CodecError
  | 1 => AD.x_BadFormat
  | 2 => AD.x_OutOfRange
  | 3 => AD.x_BadHeader
  | _ => AD.z0
structure Txt (w : World) (K : PySem.W.Frag) (mg : Str → Option Value) (AD : Ads) : Prop where
  b_int : mg "int" = none
  b_range : mg "range" = none
  g_GREATEST_NUMBER : ∃ u, mg "GREATEST_NUMBER" = some u ∧ RelV (V.int 999) u
  g_KINDS : ∃ u, mg "KINDS" = some u ∧ RelV (V.ref AD.t_KINDS) u
  ts_KINDS : ∀ H, SqT K H AD.t_KINDS ((["I", "P", "B"] : List Str).map V.str)
  g_GREATEST_LEVEL : ∃ u, mg "GREATEST_LEVEL" = some u ∧ RelV (V.int 31) u
  g_EVEN_WEIGHT : ∃ u, mg "EVEN_WEIGHT" = some u ∧ RelV (V.int 8) u
  b_sorted : mg "sorted" = none
  b_set : mg "set" = none
  g_REF_COUNTS : ∃ u, mg "REF_COUNTS" = some u ∧ RelV (V.ref AD.t_REF_COUNTS) u
  kd_REF_COUNTS : KDA K w AD.t_REF_COUNTS ([("I", AD.t_REF_COUNTS_0), ("P", AD.t_REF_COUNTS_1), ("B", AD.t_REF_COUNTS_2)] : List (Str × Addr))
  th_REF_COUNTS : ∀ z, hasG ([("I", [0]), ("P", [1, 2]), ("B", [2])] : List (Str × List Int)) z = true → hasG ([("I", AD.t_REF_COUNTS_0), ("P", AD.t_REF_COUNTS_1), ("B", AD.t_REF_COUNTS_2)] : List (Str × Addr)) z = true
  tt_REF_COUNTS : ∀ z, hasG ([("I", [0]), ("P", [1, 2]), ("B", [2])] : List (Str × List Int)) z = true → ∀ H, SqT K H (dictG ([("I", AD.t_REF_COUNTS_0), ("P", AD.t_REF_COUNTS_1), ("B", AD.t_REF_COUNTS_2)] : List (Str × Addr)) z) ((dictG ([("I", [0]), ("P", [1, 2]), ("B", [2])] : List (Str × List Int)) z).map V.int)
  b_len : mg "len" = none
  b_list : mg "list" = none
  g_BLOCK : ∃ u, mg "BLOCK" = some u ∧ RelV (V.int 8) u
  g_GREATEST_QUANTIZER : ∃ u, mg "GREATEST_QUANTIZER" = some u ∧ RelV (V.int 31) u
  b_zip : mg "zip" = none
  b_min : mg "min" = none
  b_max : mg "max" = none
  b_abs : mg "abs" = none
  b_enumerate : mg "enumerate" = none
  b_repr : mg "repr" = none
  b_isinstance : mg "isinstance" = none
  td_PictureHeader___init___store : ∀ H, SqT K H AD.td_PictureHeader___init___store (([] : List Int).map V.int)
  td_PictureHeader___init___refs : ∀ H, SqT K H AD.td_PictureHeader___init___refs (([] : List Int).map V.int)
  cl_Format : Cls K AD.c_Format
  n_Format_width : NoAttr K AD.c_Format "width"
  n_Format_height : NoAttr K AD.c_Format "height"
  n_Format_depth : NoAttr K AD.c_Format "depth"
  n_Format_chroma : NoAttr K AD.c_Format "chroma"
  cl_Settings : Cls K AD.c_Settings
  n_Settings_fmt : NoAttr K AD.c_Settings "fmt"
  n_Settings_slots : NoAttr K AD.c_Settings "slots"
  n_Settings_rows : NoAttr K AD.c_Settings "rows"
  n_Settings_deblock : NoAttr K AD.c_Settings "deblock"
  n_Settings_offset : NoAttr K AD.c_Settings "offset"
  n_Settings_layers : NoAttr K AD.c_Settings "layers"
  cl_PictureHeader : Cls K AD.c_PictureHeader
  n_PictureHeader_number : NoAttr K AD.c_PictureHeader "number"
  n_PictureHeader_kind : NoAttr K AD.c_PictureHeader "kind"
  n_PictureHeader_level : NoAttr K AD.c_PictureHeader "level"
  n_PictureHeader_store : NoAttr K AD.c_PictureHeader "store"
  n_PictureHeader_refs : NoAttr K AD.c_PictureHeader "refs"
  n_PictureHeader_weight : NoAttr K AD.c_PictureHeader "weight"
  n_PictureHeader_layer : NoAttr K AD.c_PictureHeader "layer"
  n_PictureHeader_shown : NoAttr K AD.c_PictureHeader "shown"
  n_PictureHeader_edge : NoAttr K AD.c_PictureHeader "edge"
  xg_BadFormat : mg "BadFormat" = some (.ref AD.x_BadFormat)
  xx_BadFormat : PySem.W.excIn K AD.x_BadFormat [.type "ValueError", .type "Exception", .type "BaseException", .type "object"] "ValueError.__new__" = true
  xk_BadFormat : PySem.W.keepIn K (.ref AD.x_BadFormat) = true
  xb_BadFormat : PySem.W.subIn K (.ref AD.x_BadFormat) (.type "BaseException") = some true
  xt_BadFormat : PySem.W.typeIn K (.ref AD.x_BadFormat) = some (.type "type")
  xg_BadHeader : mg "BadHeader" = some (.ref AD.x_BadHeader)
  xx_BadHeader : PySem.W.excIn K AD.x_BadHeader [.type "ValueError", .type "Exception", .type "BaseException", .type "object"] "ValueError.__new__" = true
  xk_BadHeader : PySem.W.keepIn K (.ref AD.x_BadHeader) = true
  xb_BadHeader : PySem.W.subIn K (.ref AD.x_BadHeader) (.type "BaseException") = some true
  xt_BadHeader : PySem.W.typeIn K (.ref AD.x_BadHeader) = some (.type "type")
  xg_OutOfRange : mg "OutOfRange" = some (.ref AD.x_OutOfRange)
  xx_OutOfRange : PySem.W.excIn K AD.x_OutOfRange [.type "ValueError", .type "Exception", .type "BaseException", .type "object"] "ValueError.__new__" = true
  xk_OutOfRange : PySem.W.keepIn K (.ref AD.x_OutOfRange) = true
  xb_OutOfRange : PySem.W.subIn K (.ref AD.x_OutOfRange) (.type "BaseException") = some true
  xt_OutOfRange : PySem.W.typeIn K (.ref AD.x_OutOfRange) = some (.type "type")
abbrev pat__law_digits_0 : Pat := (3, [], fun vs _ => vs)
abbrev pats__law_digits : List Pat := [pat__law_digits_0]
abbrev pat_Format___init___0 : Pat := (3, ["depth", "chroma"], fun vs zs => match vs, zs with | [a0, a1, a2], [b0, b1] => [a0, a1, a2, b0, b1] | _, _ => [])
abbrev pats_Format___init__ : List Pat := [pat_Format___init___0]
abbrev pat__require_0 : Pat := (2, [], fun vs _ => vs)
abbrev pats__require : List Pat := [pat__require_0]
def gk_Settings___init___0 {α : Type} (us mz ws : List α) : List α := match us, mz, ws with | [a0, a1], [m0, m1, m2, m3], [b0] => [a0, a1, m0, m1, b0, m2, m3] | _, _, _ => []
theorem gknil_Settings___init___0 {α : Type} {us mz ws : List α} (h : us.length ≠ 2 ∨ mz.length ≠ 4 ∨ ws.length ≠ 1) : gk_Settings___init___0 us mz ws = [] := by
  unfold gk_Settings___init___0
  split
  · simp at h
  · rfl
theorem gkrel_Settings___init___0 {vs mz zs : List V} {us mv ws : List Value} (r : Vals vs us) (s : Vals mz mv) (q : Vals zs ws) : Vals (gk_Settings___init___0 vs mz zs) (gk_Settings___init___0 us mv ws) := by
  by_cases h1 : vs.length = 2
  · by_cases h2 : mz.length = 4
    · by_cases h3 : zs.length = 1
      · obtain ⟨a0, a1, rfl⟩ := len2 h1
        obtain ⟨m0, m1, m2, m3, rfl⟩ := len4 h2
        obtain ⟨b0, rfl⟩ := len1 h3
        cases r with | cons r0 r =>
          cases r with | cons r1 r =>
            cases r
            cases s with | cons s0 s =>
              cases s with | cons s1 s =>
                cases s with | cons s2 s =>
                  cases s with | cons s3 s =>
                    cases s
                    cases q with | cons q0 q =>
                      cases q
                      exact (.cons r0 (.cons r1 (.cons s0 (.cons s1 (.cons q0 (.cons s2 (.cons s3 .nil)))))))
      · have k : ws.length ≠ 1 := fun z => h3 (q.length.trans z)
        rw [gknil_Settings___init___0 (by first | exact .inl h3 | exact .inr (.inl h3) | exact .inr (.inr h3)), gknil_Settings___init___0 (by first | exact .inl k | exact .inr (.inl k) | exact .inr (.inr k))]
        exact .nil
    · have k : mv.length ≠ 4 := fun z => h2 (s.length.trans z)
      rw [gknil_Settings___init___0 (by first | exact .inl h2 | exact .inr (.inl h2) | exact .inr (.inr h2)), gknil_Settings___init___0 (by first | exact .inl k | exact .inr (.inl k) | exact .inr (.inr k))]
      exact .nil
  · have k : us.length ≠ 2 := fun z => h1 (r.length.trans z)
    rw [gknil_Settings___init___0 (by first | exact .inl h1 | exact .inr (.inl h1) | exact .inr (.inr h1)), gknil_Settings___init___0 (by first | exact .inl k | exact .inr (.inl k) | exact .inr (.inr k))]
    exact .nil
abbrev pat_Settings___init___0 : Pat := (2, ["deblock"], fun vs zs => gk_Settings___init___0 vs [V.int 1, V.int 1, V.bl false, V.int 1] zs)
abbrev pats_Settings___init__ : List Pat := [pat_Settings___init___0]
abbrev pat__check_numbers_0 : Pat := (2, [], fun vs _ => vs)
abbrev pats__check_numbers : List Pat := [pat__check_numbers_0]
abbrev pat__check_slots_0 : Pat := (2, [], fun vs _ => vs)
abbrev pats__check_slots : List Pat := [pat__check_slots_0]
def gk_PictureHeader___init___0 {α : Type} (us mz ws : List α) : List α := match us, mz, ws with | [a0, a1], [m0, m1, m2, m3, m4, m5], [b0, b1, b2] => [a0, a1, b0, m0, b1, m1, m2, m3, m4, m5, b2] | _, _, _ => []
theorem gknil_PictureHeader___init___0 {α : Type} {us mz ws : List α} (h : us.length ≠ 2 ∨ mz.length ≠ 6 ∨ ws.length ≠ 3) : gk_PictureHeader___init___0 us mz ws = [] := by
  unfold gk_PictureHeader___init___0
  split
  · simp at h
  · rfl
theorem gkrel_PictureHeader___init___0 {vs mz zs : List V} {us mv ws : List Value} (r : Vals vs us) (s : Vals mz mv) (q : Vals zs ws) : Vals (gk_PictureHeader___init___0 vs mz zs) (gk_PictureHeader___init___0 us mv ws) := by
  by_cases h1 : vs.length = 2
  · by_cases h2 : mz.length = 6
    · by_cases h3 : zs.length = 3
      · obtain ⟨a0, a1, rfl⟩ := len2 h1
        obtain ⟨m0, m1, m2, m3, m4, m5, rfl⟩ := len6 h2
        obtain ⟨b0, b1, b2, rfl⟩ := len3 h3
        cases r with | cons r0 r =>
          cases r with | cons r1 r =>
            cases r
            cases s with | cons s0 s =>
              cases s with | cons s1 s =>
                cases s with | cons s2 s =>
                  cases s with | cons s3 s =>
                    cases s with | cons s4 s =>
                      cases s with | cons s5 s =>
                        cases s
                        cases q with | cons q0 q =>
                          cases q with | cons q1 q =>
                            cases q with | cons q2 q =>
                              cases q
                              exact (.cons r0 (.cons r1 (.cons q0 (.cons s0 (.cons q1 (.cons s1 (.cons s2 (.cons s3 (.cons s4 (.cons s5 (.cons q2 .nil)))))))))))
      · have k : ws.length ≠ 3 := fun z => h3 (q.length.trans z)
        rw [gknil_PictureHeader___init___0 (by first | exact .inl h3 | exact .inr (.inl h3) | exact .inr (.inr h3)), gknil_PictureHeader___init___0 (by first | exact .inl k | exact .inr (.inl k) | exact .inr (.inr k))]
        exact .nil
    · have k : mv.length ≠ 6 := fun z => h2 (s.length.trans z)
      rw [gknil_PictureHeader___init___0 (by first | exact .inl h2 | exact .inr (.inl h2) | exact .inr (.inr h2)), gknil_PictureHeader___init___0 (by first | exact .inl k | exact .inr (.inl k) | exact .inr (.inr k))]
      exact .nil
  · have k : us.length ≠ 2 := fun z => h1 (r.length.trans z)
    rw [gknil_PictureHeader___init___0 (by first | exact .inl h1 | exact .inr (.inl h1) | exact .inr (.inr h1)), gknil_PictureHeader___init___0 (by first | exact .inl k | exact .inr (.inl k) | exact .inr (.inr k))]
    exact .nil
abbrev pat_PictureHeader___init___0 (AD : Ads) : Pat := (2, ["number", "level", "edge"], fun vs zs => gk_PictureHeader___init___0 vs [V.str "I", V.ref AD.td_PictureHeader___init___store, V.ref AD.td_PictureHeader___init___refs, V.int 8, V.int 0, V.bl true] zs)
abbrev pats_PictureHeader___init__ (AD : Ads) : List Pat := [pat_PictureHeader___init___0 AD]
abbrev pats_Format_planes : List Pat := []
abbrev pat_Format_blocks_0 : Pat := (1, [], fun vs _ => vs)
abbrev pats_Format_blocks : List Pat := [pat_Format_blocks_0]
abbrev pat_Format__plane_size_0 : Pat := (4, [], fun vs _ => vs)
abbrev pats_Format__plane_size : List Pat := [pat_Format__plane_size_0]
abbrev pat_Format_coded_size_0 : Pat := (2, [], fun vs _ => vs)
abbrev pats_Format_coded_size : List Pat := [pat_Format_coded_size_0]
abbrev pat__law_planes_0 : Pat := (3, [], fun vs _ => vs)
abbrev pats__law_planes : List Pat := [pat__law_planes_0]
abbrev pat_copy_planes_0 : Pat := (1, [], fun vs _ => vs)
abbrev pats_copy_planes : List Pat := [pat_copy_planes_0]
abbrev pat_step_of_0 : Pat := (1, [], fun vs _ => vs)
abbrev pats_step_of : List Pat := [pat_step_of_0]
abbrev pat_edge_limit_0 : Pat := (3, [], fun vs _ => vs)
abbrev pats_edge_limit : List Pat := [pat_edge_limit_0]
abbrev pat__limit_between_0 : Pat := (3, [], fun vs _ => vs)
abbrev pats__limit_between : List Pat := [pat__limit_between_0]
abbrev pat__limits_0 : Pat := (2, [], fun vs _ => vs)
abbrev pats__limits : List Pat := [pat__limits_0]
abbrev pat_transposed_0 : Pat := (1, [], fun vs _ => vs)
abbrev pats_transposed : List Pat := [pat_transposed_0]
abbrev pat_transposed_v_b_0 : Pat := (1, [], fun vs _ => vs)
abbrev pats_transposed_v_b : List Pat := [pat_transposed_v_b_0]
abbrev pat_block_side_0 : Pat := (2, [], fun vs _ => vs)
abbrev pats_block_side : List Pat := [pat_block_side_0]
abbrev pat_clip_0 : Pat := (3, [], fun vs _ => vs)
abbrev pats_clip : List Pat := [pat_clip_0]
abbrev pat_smooth_edge_0 : Pat := (4, ["limit", "top"], fun vs zs => match vs, zs with | [a0, a1, a2, a3], [b0, b1] => [a0, a1, a2, a3, b0, b1] | _, _ => [])
abbrev pats_smooth_edge : List Pat := [pat_smooth_edge_0]
abbrev pat__smooth_row_0 : Pat := (4, [], fun vs _ => vs)
abbrev pats__smooth_row : List Pat := [pat__smooth_row_0]
abbrev pat__smooth_rows_0 : Pat := (4, [], fun vs _ => vs)
abbrev pats__smooth_rows : List Pat := [pat__smooth_rows_0]
abbrev pats_Format_top : List Pat := []
abbrev pat_deblock_0 : Pat := (4, [], fun vs _ => vs)
abbrev pats_deblock : List Pat := [pat_deblock_0]
abbrev pat__law_cell_0 : Pat := (2, [], fun vs _ => vs)
abbrev pats__law_cell : List Pat := [pat__law_cell_0]
abbrev pat__law_limit_0 : Pat := (3, [], fun vs _ => vs)
abbrev pats__law_limit : List Pat := [pat__law_limit_0]
abbrev pat__law_pair_0 : Pat := (6, [], fun vs _ => vs)
abbrev pats__law_pair : List Pat := [pat__law_pair_0]
abbrev pat__law_columns_0 : Pat := (5, [], fun vs _ => vs)
abbrev pats__law_columns : List Pat := [pat__law_columns_0]
abbrev pat__law_turned_0 : Pat := (1, [], fun vs _ => vs)
abbrev pats__law_turned : List Pat := [pat__law_turned_0]
abbrev pat__law_turned_v_b_0 : Pat := (1, [], fun vs _ => vs)
abbrev pats__law_turned_v_b : List Pat := [pat__law_turned_v_b_0]
abbrev pats_law : List Pat := []
def sp__law_digits (K : PySem.W.Frag) (AD : Ads) : Sp := fun vs H Q E => ∃ (G : Hp) (cell' : Int) (base' : Int) (most' : Int), vs = [.int cell', .int base', .int most'] ∧ Same G H ∧ cW (F__law_digits cell' base' most') (fun v => ∀ p H', H p = none → Same H H' → H' p = some (.lst (v.map V.int)) → Q (.ref p) H') (fun e => ∀ H', Same H H' → E (.ref (excA AD e)) none H')
def sp_Format___init__ (K : PySem.W.Frag) (AD : Ads) : Sp := fun vs H Q E => ∃ (G : Hp) (p_self dx_self : Addr) (width' : Int) (height' : Int) (depth' : Int) (chroma' : Int), vs = [.ref p_self, .int width', .int height', .int depth', .int chroma'] ∧ Same G H ∧ (∀ a ∈ [p_self], G a = none) ∧ H p_self = some (.ins AD.c_Format dx_self []) ∧ cW (F_Format___init__ width' height' depth' chroma') (fun v => ∀ (H' : Hp), SameX p_self H H' → H' p_self = some (.ins AD.c_Format dx_self [("width", V.int v.width), ("height", V.int v.height), ("depth", V.int v.depth), ("chroma", V.int v.chroma)]) → Q .non H') (fun e => ∀ H', SameX p_self H H' → E (.ref (excA AD e)) none H')
def sp__require (K : PySem.W.Frag) (AD : Ads) : Sp := fun vs H Q E => ∃ (G : Hp) (holds' : Bool) (text' : Str), vs = [.bl holds', .str text'] ∧ Same G H ∧ cW (F__require holds' text') (fun v => Q .non H) (fun e => E (.ref (excA AD e)) none H)
def sp_Settings___init__ (K : PySem.W.Frag) (AD : Ads) : Sp := fun vs H Q E => ∃ (G : Hp) (p_self dx_self : Addr) (p_fmt dx_fmt : Addr) (fmt' : St_Format) (slots' : Int) (rows' : Int) (deblock' : Bool) (offset' : Bool) (layers' : Int), vs = [.ref p_self, .ref p_fmt, .int slots', .int rows', .bl deblock', .bl offset', .int layers'] ∧ Same G H ∧ (∀ a ∈ [p_self], G a = none) ∧ H p_self = some (.ins AD.c_Settings dx_self []) ∧ (hideL [p_self] H) p_fmt = some (.ins AD.c_Format dx_fmt [("width", V.int fmt'.width), ("height", V.int fmt'.height), ("depth", V.int fmt'.depth), ("chroma", V.int fmt'.chroma)]) ∧ cW (F_Settings___init__ fmt' slots' rows' deblock' offset' layers') (fun v => ∀ (H' : Hp), SameX p_self H H' → H' p_self = some (.ins AD.c_Settings dx_self [("fmt", V.ref p_fmt), ("slots", V.int v.slots), ("rows", V.int v.rows), ("deblock", V.bl v.deblock), ("offset", V.bl v.offset), ("layers", V.int v.layers)]) → Q .non H') (fun e => ∀ H', SameX p_self H H' → E (.ref (excA AD e)) none H')
def sp__check_numbers (K : PySem.W.Frag) (AD : Ads) : Sp := fun vs H Q E => ∃ (G : Hp) (p_settings p_settings_fmt dx_settings dx_settings_fmt : Addr) (settings' : St_Settings) (p_header l_header_store l_header_refs dx_header : Addr) (header' : St_PictureHeader), vs = [.ref p_settings, .ref p_header] ∧ Same G H ∧ (hideL [] H) p_settings = some (.ins AD.c_Settings dx_settings [("fmt", V.ref p_settings_fmt), ("slots", V.int settings'.slots), ("rows", V.int settings'.rows), ("deblock", V.bl settings'.deblock), ("offset", V.bl settings'.offset), ("layers", V.int settings'.layers)]) ∧ (hideL [] H) p_settings_fmt = some (.ins AD.c_Format dx_settings_fmt [("width", V.int settings'.fmt.width), ("height", V.int settings'.fmt.height), ("depth", V.int settings'.fmt.depth), ("chroma", V.int settings'.fmt.chroma)]) ∧ (hideL [] H) p_header = some (.ins AD.c_PictureHeader dx_header [("number", V.int header'.number), ("kind", V.str header'.kind), ("level", V.int header'.level), ("store", V.ref l_header_store), ("refs", V.ref l_header_refs), ("weight", V.int header'.weight), ("layer", V.int header'.layer), ("shown", V.bl header'.shown), ("edge", V.int header'.edge)]) ∧ (hideL [] H) l_header_store = some (.lst ((header'.store : (List Int)).map V.int)) ∧ (hideL [] H) l_header_refs = some (.lst ((header'.refs : (List Int)).map V.int)) ∧ cW (F__check_numbers settings' header') (fun v => ∀ H', Same H H' → Q .non H') (fun e => ∀ H', Same H H' → E (.ref (excA AD e)) none H')
def sp__check_slots (K : PySem.W.Frag) (AD : Ads) : Sp := fun vs H Q E => ∃ (G : Hp) (p_settings p_settings_fmt dx_settings dx_settings_fmt : Addr) (settings' : St_Settings) (p_header l_header_store l_header_refs dx_header : Addr) (header' : St_PictureHeader), vs = [.ref p_settings, .ref p_header] ∧ Same G H ∧ (hideL [] H) p_settings = some (.ins AD.c_Settings dx_settings [("fmt", V.ref p_settings_fmt), ("slots", V.int settings'.slots), ("rows", V.int settings'.rows), ("deblock", V.bl settings'.deblock), ("offset", V.bl settings'.offset), ("layers", V.int settings'.layers)]) ∧ (hideL [] H) p_settings_fmt = some (.ins AD.c_Format dx_settings_fmt [("width", V.int settings'.fmt.width), ("height", V.int settings'.fmt.height), ("depth", V.int settings'.fmt.depth), ("chroma", V.int settings'.fmt.chroma)]) ∧ (hideL [] H) p_header = some (.ins AD.c_PictureHeader dx_header [("number", V.int header'.number), ("kind", V.str header'.kind), ("level", V.int header'.level), ("store", V.ref l_header_store), ("refs", V.ref l_header_refs), ("weight", V.int header'.weight), ("layer", V.int header'.layer), ("shown", V.bl header'.shown), ("edge", V.int header'.edge)]) ∧ (hideL [] H) l_header_store = some (.lst ((header'.store : (List Int)).map V.int)) ∧ (hideL [] H) l_header_refs = some (.lst ((header'.refs : (List Int)).map V.int)) ∧ cW (F__check_slots settings' header') (fun v => ∀ H', Same H H' → Q .non H') (fun e => ∀ H', Same H H' → E (.ref (excA AD e)) none H')
def sp_PictureHeader___init__ (K : PySem.W.Frag) (AD : Ads) : Sp := fun vs H Q E => ∃ (G : Hp) (p_self dx_self : Addr) (p_settings p_settings_fmt dx_settings dx_settings_fmt : Addr) (settings' : St_Settings) (number' : Int) (kind' : Str) (level' : Int) (v_store : V) (store' : (List Int)) (v_refs : V) (refs' : (List Int)) (weight' : Int) (layer' : Int) (shown' : Bool) (edge' : Int), vs = [.ref p_self, .ref p_settings, .int number', .str kind', .int level', v_store, v_refs, .int weight', .int layer', .bl shown', .int edge'] ∧ Same G H ∧ (∀ a ∈ [p_self], G a = none) ∧ H p_self = some (.ins AD.c_PictureHeader dx_self []) ∧ (hideL [p_self] H) p_settings = some (.ins AD.c_Settings dx_settings [("fmt", V.ref p_settings_fmt), ("slots", V.int settings'.slots), ("rows", V.int settings'.rows), ("deblock", V.bl settings'.deblock), ("offset", V.bl settings'.offset), ("layers", V.int settings'.layers)]) ∧ (hideL [p_self] H) p_settings_fmt = some (.ins AD.c_Format dx_settings_fmt [("width", V.int settings'.fmt.width), ("height", V.int settings'.fmt.height), ("depth", V.int settings'.fmt.depth), ("chroma", V.int settings'.fmt.chroma)]) ∧ SeqI K (hideL [p_self] H) v_store store' ∧ SeqI K (hideL [p_self] H) v_refs refs' ∧ cW (F_PictureHeader___init__ settings' number' kind' level' store' refs' weight' layer' shown' edge') (fun v => ∀ (H' : Hp) (l_store l_refs : Addr), SameX p_self H H' → H l_store = none → H l_refs = none → l_store ≠ l_refs → H' p_self = some (.ins AD.c_PictureHeader dx_self [("number", V.int v.number), ("kind", V.str v.kind), ("level", V.int v.level), ("store", V.ref l_store), ("refs", V.ref l_refs), ("weight", V.int v.weight), ("layer", V.int v.layer), ("shown", V.bl v.shown), ("edge", V.int v.edge)]) → H' l_store = some (.lst (v.store.map V.int)) → H' l_refs = some (.lst (v.refs.map V.int)) → Q .non H') (fun e => ∀ H', SameX p_self H H' → E (.ref (excA AD e)) none H')
def sp_Format_planes (K : PySem.W.Frag) (AD : Ads) : Sp := fun vs H Q E => ∃ (G : Hp) (p_self dx_self : Addr) (self' : St_Format), vs = [.ref p_self] ∧ Same G H ∧ (hideL [] H) p_self = some (.ins AD.c_Format dx_self [("width", V.int self'.width), ("height", V.int self'.height), ("depth", V.int self'.depth), ("chroma", V.int self'.chroma)]) ∧ cW (F_Format_planes self') (fun v => ∀ H', Same H H' → Q (.int v) H') (fun e => ∀ H', Same H H' → E (.ref (excA AD e)) none H')
def sp_Format_blocks (K : PySem.W.Frag) (AD : Ads) : Sp := fun vs H Q E => ∃ (G : Hp) (p_self dx_self : Addr) (self' : St_Format), vs = [.ref p_self] ∧ Same G H ∧ (hideL [] H) p_self = some (.ins AD.c_Format dx_self [("width", V.int self'.width), ("height", V.int self'.height), ("depth", V.int self'.depth), ("chroma", V.int self'.chroma)]) ∧ cW (F_Format_blocks self') (fun v => ∀ u H' G', Same H H' → Same G G' → Same G' H' → (∀ b, H b ≠ none → G b = none → G' b = none) → Rp G' u ((encT2 PyData.int PyData.int) v) → Q u H') (fun e => ∀ H', Same H H' → E (.ref (excA AD e)) none H')
def sp_Format__plane_size (K : PySem.W.Frag) (AD : Ads) : Sp := fun vs H Q E => ∃ (G : Hp) (p_self dx_self : Addr) (self' : St_Format) (plane' : Int) (width' : Int) (height' : Int), vs = [.ref p_self, .int plane', .int width', .int height'] ∧ Same G H ∧ (hideL [] H) p_self = some (.ins AD.c_Format dx_self [("width", V.int self'.width), ("height", V.int self'.height), ("depth", V.int self'.depth), ("chroma", V.int self'.chroma)]) ∧ cW (F_Format__plane_size self' plane' width' height') (fun v => ∀ u H' G', Same H H' → Same G G' → Same G' H' → (∀ b, H b ≠ none → G b = none → G' b = none) → Rp G' u ((encT2 PyData.int PyData.int) v) → Q u H') (fun e => ∀ H', Same H H' → E (.ref (excA AD e)) none H')
def sp_Format_coded_size (K : PySem.W.Frag) (AD : Ads) : Sp := fun vs H Q E => ∃ (G : Hp) (p_self dx_self : Addr) (self' : St_Format) (plane' : Int), vs = [.ref p_self, .int plane'] ∧ Same G H ∧ (hideL [] H) p_self = some (.ins AD.c_Format dx_self [("width", V.int self'.width), ("height", V.int self'.height), ("depth", V.int self'.depth), ("chroma", V.int self'.chroma)]) ∧ cW (F_Format_coded_size self' plane') (fun v => ∀ u H' G', Same H H' → Same G G' → Same G' H' → (∀ b, H b ≠ none → G b = none → G' b = none) → Rp G' u ((encT2 PyData.int PyData.int) v) → Q u H') (fun e => ∀ H', Same H H' → E (.ref (excA AD e)) none H')
def sp__law_planes (K : PySem.W.Frag) (AD : Ads) : Sp := fun vs H Q E => ∃ (G : Hp) (cell' : Int) (p_fmt dx_fmt : Addr) (fmt' : St_Format) (top' : Int), vs = [.int cell', .ref p_fmt, .int top'] ∧ Same G H ∧ (hideL [] H) p_fmt = some (.ins AD.c_Format dx_fmt [("width", V.int fmt'.width), ("height", V.int fmt'.height), ("depth", V.int fmt'.depth), ("chroma", V.int fmt'.chroma)]) ∧ cW (F__law_planes cell' fmt' top') (fun v => ∀ u H' G', Same H H' → Same G G' → Same G' H' → (∀ b, H b ≠ none → G b = none → G' b = none) → Rp G' u ((encL (encL (encL PyData.int))) v) → Q u H') (fun e => ∀ H', Same H H' → E (.ref (excA AD e)) none H')
def sp_copy_planes (K : PySem.W.Frag) (AD : Ads) : Sp := fun vs H Q E => ∃ (G : Hp) (v_planes : V) (planes' : (List (List (List Int)))), vs = [v_planes] ∧ Same G H ∧ Rp (hideL [] H) v_planes ((encL (encL (encL PyData.int))) planes') ∧ cW (F_copy_planes planes') (fun v => ∀ (H' : Hp) (a : Addr) (vs : List V) (L : List Addr) (G' : Hp), H a = none → (∀ b ∈ L, H b = none) → (∀ b ∈ L, b ≠ a) → Same H H' → Same G G' → Same G' H' → (∀ b, H b ≠ none → G b = none → G' b = none) → G' a = none → (∀ b ∈ L, G' b = none) → H' a = some (.lst vs) → OwAll G' H' L vs ((v : (List (List (List Int)))).map (oL (oL oI))) → Q (.ref a) H') (fun e => ∀ H', Same H H' → E (.ref (excA AD e)) none H')
def sp_step_of (K : PySem.W.Frag) (AD : Ads) : Sp := fun vs H Q E => ∃ (G : Hp) (quantizer' : Int), vs = [.int quantizer'] ∧ Same G H ∧ cW (F_step_of quantizer') (fun v => Q (.int v) H) (fun e => E (.ref (excA AD e)) none H)
def sp_edge_limit (K : PySem.W.Frag) (AD : Ads) : Sp := fun vs H Q E => ∃ (G : Hp) (first' : Int) (second' : Int) (edge' : Int), vs = [.int first', .int second', .int edge'] ∧ Same G H ∧ cW (F_edge_limit first' second' edge') (fun v => Q (.int v) H) (fun e => E (.ref (excA AD e)) none H)
def sp__limit_between (K : PySem.W.Frag) (AD : Ads) : Sp := fun vs H Q E => ∃ (G : Hp) (v_one : V) (one' : (Int × Bool)) (v_other : V) (other' : (Int × Bool)) (edge' : Int), vs = [v_one, v_other, .int edge'] ∧ Same G H ∧ Rp (hideL [] H) v_one ((encT2 PyData.int PyData.bool) one') ∧ Rp (hideL [] H) v_other ((encT2 PyData.int PyData.bool) other') ∧ cW (F__limit_between one' other' edge') (fun v => ∀ H', Same H H' → Q (.int v) H') (fun e => ∀ H', Same H H' → E (.ref (excA AD e)) none H')
def sp__limits (K : PySem.W.Frag) (AD : Ads) : Sp := fun vs H Q E => ∃ (G : Hp) (v_blocks : V) (blocks' : (List (List (Int × Bool)))) (edge' : Int), vs = [v_blocks, .int edge'] ∧ Same G H ∧ Rp (hideL [] H) v_blocks ((encL (encL (encT2 PyData.int PyData.bool))) blocks') ∧ cW (F__limits blocks' edge') (fun v => ∀ u H' G', Same H H' → Same G G' → Same G' H' → (∀ b, H b ≠ none → G b = none → G' b = none) → Rp G' u ((encL (encL PyData.int)) v) → Q u H') (fun e => ∀ H', Same H H' → E (.ref (excA AD e)) none H')
def sp_transposed (K : PySem.W.Frag) (AD : Ads) : Sp := fun vs H Q E => ∃ (G : Hp) (v_rows : V) (rows' : (List (List Int))), vs = [v_rows] ∧ Same G H ∧ Rp (hideL [] H) v_rows ((encL (encL PyData.int)) rows') ∧ cW (F_transposed rows') (fun v => ∀ (H' : Hp) (a : Addr) (vs : List V) (L : List Addr) (G' : Hp), H a = none → (∀ b ∈ L, H b = none) → (∀ b ∈ L, b ≠ a) → Same H H' → Same G G' → Same G' H' → (∀ b, H b ≠ none → G b = none → G' b = none) → G' a = none → (∀ b ∈ L, G' b = none) → H' a = some (.lst vs) → OwAll G' H' L vs ((v : (List (List Int))).map (oL oI)) → Q (.ref a) H') (fun e => ∀ H', Same H H' → E (.ref (excA AD e)) none H')
def sp_transposed_v_b (K : PySem.W.Frag) (AD : Ads) : Sp := fun vs H Q E => ∃ (G : Hp) (v_rows : V) (rows' : (List (List (Int × Bool)))), vs = [v_rows] ∧ Same G H ∧ Rp G v_rows ((encL (encL (encT2 PyData.int PyData.bool))) rows') ∧ cW (F_transposed_v_b rows') (fun v => ∀ u H' G', Same H H' → Same G G' → Same G' H' → (∀ b, H b ≠ none → G b = none → G' b = none) → Rp G' u ((encL (encL (encT2 PyData.int PyData.bool))) v) → Q u H') (fun e => ∀ H', Same H H' → E (.ref (excA AD e)) none H')
def sp_block_side (K : PySem.W.Frag) (AD : Ads) : Sp := fun vs H Q E => ∃ (G : Hp) (p_fmt dx_fmt : Addr) (fmt' : St_Format) (plane' : Int), vs = [.ref p_fmt, .int plane'] ∧ Same G H ∧ (hideL [] H) p_fmt = some (.ins AD.c_Format dx_fmt [("width", V.int fmt'.width), ("height", V.int fmt'.height), ("depth", V.int fmt'.depth), ("chroma", V.int fmt'.chroma)]) ∧ cW (F_block_side fmt' plane') (fun v => ∀ H', Same H H' → Q (.int v) H') (fun e => ∀ H', Same H H' → E (.ref (excA AD e)) none H')
def sp_clip (K : PySem.W.Frag) (AD : Ads) : Sp := fun vs H Q E => ∃ (G : Hp) (value' : Int) (low' : Int) (high' : Int), vs = [.int value', .int low', .int high'] ∧ Same G H ∧ cW (F_clip value' low' high') (fun v => Q (.int v) H) (fun e => E (.ref (excA AD e)) none H)
def sp_smooth_edge (K : PySem.W.Frag) (AD : Ads) : Sp := fun vs H Q E => ∃ (G : Hp) (a1' : Int) (a0' : Int) (b0' : Int) (b1' : Int) (limit' : Int) (top' : Int), vs = [.int a1', .int a0', .int b0', .int b1', .int limit', .int top'] ∧ Same G H ∧ cW (F_smooth_edge a1' a0' b0' b1' limit' top') (fun v => ∀ u H' G', Same H H' → Same G G' → Same G' H' → (∀ b, H b ≠ none → G b = none → G' b = none) → Rp G' u ((encT2 PyData.int PyData.int) v) → Q u H') (fun e => ∀ H', Same H H' → E (.ref (excA AD e)) none H')
def sp__smooth_row (K : PySem.W.Frag) (AD : Ads) : Sp := fun vs H Q E => ∃ (G : Hp) (a_row : Addr) (row' : List Int) (a_limits : Addr) (limits' : List Int) (side' : Int) (top' : Int), vs = [.ref a_row, .ref a_limits, .int side', .int top'] ∧ Same G H ∧ (hideL [] H) a_row = some (.lst ((row' : List Int).map V.int)) ∧ (hideL [] H) a_limits = some (.lst ((limits' : List Int).map V.int)) ∧ cW (F__smooth_row row' limits' side' top') (fun v => ∀ p H', H p = none → Same H H' → H' p = some (.lst (v.map V.int)) → Q (.ref p) H') (fun e => ∀ H', Same H H' → E (.ref (excA AD e)) none H')
def sp__smooth_rows (K : PySem.W.Frag) (AD : Ads) : Sp := fun vs H Q E => ∃ (G : Hp) (v_plane : V) (plane' : (List (List Int))) (v_limits : V) (limits' : (List (List Int))) (side' : Int) (top' : Int), vs = [v_plane, v_limits, .int side', .int top'] ∧ Same G H ∧ Rp (hideL [] H) v_plane ((encL (encL PyData.int)) plane') ∧ Rp (hideL [] H) v_limits ((encL (encL PyData.int)) limits') ∧ cW (F__smooth_rows plane' limits' side' top') (fun v => ∀ (H' : Hp) (a : Addr) (vs : List V) (L : List Addr) (G' : Hp), H a = none → (∀ b ∈ L, H b = none) → (∀ b ∈ L, b ≠ a) → Same H H' → Same G G' → Same G' H' → (∀ b, H b ≠ none → G b = none → G' b = none) → G' a = none → (∀ b ∈ L, G' b = none) → H' a = some (.lst vs) → OwAll G' H' L vs ((v : (List (List Int))).map (oL oI)) → Q (.ref a) H') (fun e => ∀ H', Same H H' → E (.ref (excA AD e)) none H')
def sp_Format_top (K : PySem.W.Frag) (AD : Ads) : Sp := fun vs H Q E => ∃ (G : Hp) (p_self dx_self : Addr) (self' : St_Format), vs = [.ref p_self] ∧ Same G H ∧ (hideL [] H) p_self = some (.ins AD.c_Format dx_self [("width", V.int self'.width), ("height", V.int self'.height), ("depth", V.int self'.depth), ("chroma", V.int self'.chroma)]) ∧ cW (F_Format_top self') (fun v => ∀ H', Same H H' → Q (.int v) H') (fun e => ∀ H', Same H H' → E (.ref (excA AD e)) none H')
def sp_deblock (K : PySem.W.Frag) (AD : Ads) : Sp := fun vs H Q E => ∃ (G : Hp) (p_fmt dx_fmt : Addr) (fmt' : St_Format) (p_header l_header_store l_header_refs dx_header : Addr) (header' : St_PictureHeader) (v_planes : V) (planes' : (List (List (List Int)))) (v_blocks : V) (blocks' : (List (List (Int × Bool)))), vs = [.ref p_fmt, .ref p_header, v_planes, v_blocks] ∧ Same G H ∧ (hideL [] H) p_fmt = some (.ins AD.c_Format dx_fmt [("width", V.int fmt'.width), ("height", V.int fmt'.height), ("depth", V.int fmt'.depth), ("chroma", V.int fmt'.chroma)]) ∧ (hideL [] H) p_header = some (.ins AD.c_PictureHeader dx_header [("number", V.int header'.number), ("kind", V.str header'.kind), ("level", V.int header'.level), ("store", V.ref l_header_store), ("refs", V.ref l_header_refs), ("weight", V.int header'.weight), ("layer", V.int header'.layer), ("shown", V.bl header'.shown), ("edge", V.int header'.edge)]) ∧ (hideL [] H) l_header_store = some (.lst ((header'.store : (List Int)).map V.int)) ∧ (hideL [] H) l_header_refs = some (.lst ((header'.refs : (List Int)).map V.int)) ∧ Rp (hideL [] H) v_planes ((encL (encL (encL PyData.int))) planes') ∧ Rp G v_blocks ((encL (encL (encT2 PyData.int PyData.bool))) blocks') ∧ cW (F_deblock fmt' header' planes' blocks') (fun v => ∀ (H' : Hp) (a : Addr) (vs : List V) (L : List Addr) (G' : Hp), H a = none → (∀ b ∈ L, H b = none) → (∀ b ∈ L, b ≠ a) → Same H H' → Same G G' → Same G' H' → (∀ b, H b ≠ none → G b = none → G' b = none) → G' a = none → (∀ b ∈ L, G' b = none) → H' a = some (.lst vs) → OwAll G' H' L vs ((v : (List (List (List Int)))).map (oL (oL oI))) → Q (.ref a) H') (fun e => ∀ H', Same H H' → E (.ref (excA AD e)) none H')
def sp__law_cell (K : PySem.W.Frag) (AD : Ads) : Sp := fun vs H Q E => ∃ (G : Hp) (a_script : Addr) (script' : List Int) (k' : Int), vs = [.ref a_script, .int k'] ∧ Same G H ∧ SqL K H a_script ((script' : List Int).map V.int) ∧ cW (F__law_cell script' k') (fun v => Q (.int v) H) (fun e => E (.ref (excA AD e)) none H)
def sp__law_limit (K : PySem.W.Frag) (AD : Ads) : Sp := fun vs H Q E => ∃ (G : Hp) (v_first : V) (first' : (Int × Bool)) (v_second : V) (second' : (Int × Bool)) (edge' : Int), vs = [v_first, v_second, .int edge'] ∧ Same G H ∧ Rp (hideL [] H) v_first ((encT2 PyData.int PyData.bool) first') ∧ Rp (hideL [] H) v_second ((encT2 PyData.int PyData.bool) second') ∧ cW (F__law_limit first' second' edge') (fun v => Q (.int v) H) (fun e => E (.ref (excA AD e)) none H)
def sp__law_pair (K : PySem.W.Frag) (AD : Ads) : Sp := fun vs H Q E => ∃ (G : Hp) (a1' : Int) (a0' : Int) (b0' : Int) (b1' : Int) (limit' : Int) (top' : Int), vs = [.int a1', .int a0', .int b0', .int b1', .int limit', .int top'] ∧ Same G H ∧ cW (F__law_pair a1' a0' b0' b1' limit' top') (fun v => ∀ u H' G', Same H H' → Same G G' → Same G' H' → (∀ b, H b ≠ none → G b = none → G' b = none) → Rp G' u ((encT2 PyData.int PyData.int) v) → Q u H') (fun e => ∀ H', Same H H' → E (.ref (excA AD e)) none H')
def sp__law_columns (K : PySem.W.Frag) (AD : Ads) : Sp := fun vs H Q E => ∃ (G : Hp) (a_rows : Addr) (vs_rows : List V) (L_rows : List Addr) (rows' : (List (List Int))) (v_blocks : V) (blocks' : (List (List (Int × Bool)))) (size' : Int) (edge' : Int) (top' : Int), vs = [.ref a_rows, v_blocks, .int size', .int edge', .int top'] ∧ Same G H ∧ (∀ a ∈ (a_rows :: (L_rows ++ [])), G a = none) ∧ H a_rows = some (.lst (vs_rows)) ∧ OwAll G H L_rows vs_rows ((rows' : (List (List Int))).map (oL oI)) ∧ (∀ b ∈ L_rows, b ≠ a_rows) ∧ Rp (hideL (a_rows :: (L_rows ++ [])) H) v_blocks ((encL (encL (encT2 PyData.int PyData.bool))) blocks') ∧ cW (F__law_columns rows' blocks' size' edge' top') (fun v => ∀ (H' G' : Hp) (vs'_rows : List V) (L'_rows : List Addr), SameXs (a_rows :: (L_rows ++ [])) H H' → Same G G' → Same G' H' → (∀ b, H b ≠ none → G b = none → G' b = none) → (∀ b ∈ (a_rows :: (L_rows ++ [])), H' b ≠ none) → H' a_rows = some (.lst (vs'_rows)) → (∀ b ∈ L'_rows, b ∈ L_rows ∨ H b = none) → (∀ b ∈ L'_rows, G' b = none) → (∀ b ∈ L'_rows, b ≠ a_rows) → OwAll G' H' L'_rows vs'_rows ((v : (List (List Int))).map (oL oI)) → Q .non H') (fun e => ∀ H', Same H H' → E (.ref (excA AD e)) none H')
def sp__law_turned (K : PySem.W.Frag) (AD : Ads) : Sp := fun vs H Q E => ∃ (G : Hp) (v_rows : V) (rows' : (List (List Int))), vs = [v_rows] ∧ Same G H ∧ Rp (hideL [] H) v_rows ((encL (encL PyData.int)) rows') ∧ cW (F__law_turned rows') (fun v => ∀ (H' : Hp) (a : Addr) (vs : List V) (L : List Addr) (G' : Hp), H a = none → (∀ b ∈ L, H b = none) → (∀ b ∈ L, b ≠ a) → Same H H' → Same G G' → Same G' H' → (∀ b, H b ≠ none → G b = none → G' b = none) → G' a = none → (∀ b ∈ L, G' b = none) → H' a = some (.lst vs) → OwAll G' H' L vs ((v : (List (List Int))).map (oL oI)) → Q (.ref a) H') (fun e => ∀ H', Same H H' → E (.ref (excA AD e)) none H')
def sp__law_turned_v_b (K : PySem.W.Frag) (AD : Ads) : Sp := fun vs H Q E => ∃ (G : Hp) (v_rows : V) (rows' : (List (List (Int × Bool)))), vs = [v_rows] ∧ Same G H ∧ Rp G v_rows ((encL (encL (encT2 PyData.int PyData.bool))) rows') ∧ cW (F__law_turned_v_b rows') (fun v => ∀ u H' G', Same H H' → Same G G' → Same G' H' → (∀ b, H b ≠ none → G b = none → G' b = none) → Rp G' u ((encL (encL (encT2 PyData.int PyData.bool))) v) → Q u H') (fun e => ∀ H', Same H H' → E (.ref (excA AD e)) none H')
def sp_law (K : PySem.W.Frag) (AD : Ads) : Sp := fun vs H Q E => ∃ (a_script : Addr) (script : List Int), vs = [.ref a_script] ∧ SqL K H a_script (script.map V.int) ∧ cW (F_law script) (fun v => v = true) (fun _ => False) ∧ ∀ H', Q (.bl true) H'
section
variable {P : Program} {w : World} {K : PySem.W.Frag} {mg : Str → Option Value} {base : Heap} {AD : Ads}
abbrev N__law_digits : List Str := ["cell", "base", "most", "digits", "large", "k"]
theorem sc__law_digits : FnScope N__law_digits ["cell", "base", "most"] (defScope s__law_digits) := ⟨rfl, rfl, rfl, by decide +kernel, rfl, by decide +kernel, by decide +kernel⟩
theorem ok__law_digits (D : DefX K mg "_law_digits" s__law_digits ["cell", "base", "most"] pats__law_digits) (T : Txt w K mg AD)  : CalX P w K mg base 1 "_law_digits" (sp__law_digits K AD) pats__law_digits := by
  refine D.ok sc__law_digits (fun vs H Q E h => ?_) (fun f cdv A_ outer s H vs Q E hr h => ?_)
  · obtain ⟨G, cell', base', most', rfl, _⟩ := h
    rfl
  · obtain ⟨G, cell', base', most', rfl, sG, hw⟩ := h
    refine ⟨_, (pss_cons (ps_set (i := 3) sc__law_digits.nd rfl (Or.inl rfl) (pe_lst pa_nil))
      (pss_cons (ps_set (i := 4) sc__law_digits.nd rfl (Or.inl rfl) (pe_cmp (pc_ge (pv 0) (pe_op op_pow pe_int pe_int))))
      (pss_cons (ps_for (passes_of rfl) rfl (pi_range1 rfl T.b_range (pa_cons (pv 2) pa_nil)) (pg_name (i := 5) sc__law_digits.nd rfl (Or.inl rfl)) (pss_one (ps_if (pt_val (pv 4)) (pss_cons (ps_expr (pe_bm PySem.F.plainAttrs_list PySem.F.slot_list_append PySem.F.type_list_append mt_append (pv 3) (pa_cons (pe_op op_mod (pe_callTy call_int1 (by rfl) T.b_int (by decide +kernel) (pa_cons (pv 0) pa_nil)) (pv 1)) pa_nil)))
      (pss_one (ps_set (i := 0) sc__law_digits.nd rfl (Or.inl rfl) (pe_op op_fdivW (pv 0) (pv 1))))) (pss_one (ps_expr (pe_bm PySem.F.plainAttrs_list PySem.F.slot_list_append PySem.F.type_list_append mt_append (pv 3) (pa_cons (pe_op op_mod (pe_op op_mod (pe_callTy call_int1 (by rfl) T.b_int (by decide +kernel) (pa_cons (pe_op op_add (pe_op op_add (pe_op op_mul (pv 0) pe_int) (pe_op op_mul (pe_op op_mul (pe_op op_add (pv 5) pe_int) (pe_op op_add (pv 5) pe_int)) pe_int)) (pe_op op_mul (pe_op op_fdivW (pv 0) pe_int) (pv 5))) pa_nil)) pe_int) (pv 1)) pa_nil)))))))
      (pss_one (ps_ret (pv 3)))))), ?_⟩
    obtain ⟨KK, EE, hK0, hE, hw⟩ := cW_gen hw
    have S0 := Sep.startG sG
    unfold F__law_digits at hw
    refine ⟨(by show 0 ≤ sizeLine; decide), fun p1 n2 => ?_⟩
    generalize g3 : upd H p1 _ = H4
    obtain ⟨e5, h6⟩ := gen_new n2 g3
    have h7 : H4 p1 = some (.lst ((([] : (List Int)) : (List Int)).map V.int)) := h6
    have fr8 := S0.free n2
    have S9 := S0.new n2 e5 h7 fr8
    refine ⟨_, rfl, _, _, rfl, rfl, ⟨by decide, by decide, by decide⟩, _, _, rfl, rfl, ?_⟩
    have hw := cW_bnd hw
    obtain ⟨g11, hw⟩ := cW_grd hw
    obtain ⟨K14, hK15, hw⟩ := cW_push hw
    refine ⟨_, rfl, _, rfl, g11.1, g11.2, for_range (lo := 0) (n := Int.toNat (most')) (fun i σ H' => ∃ (cell_16 : Int) (digits_17 : (List Int)) (u18 : Option V) (G' : Hp), σ = [some (V.int cell_16), some (V.int (base')), some (V.int (most')), some (V.ref p1), some (V.bl (decide (((10 : Int) ^ Int.toNat 18) ≤ cell'))), u18] ∧ Same G G' ∧ Sep [] H G G' H' [p1] ∧ H' p1 = some (.lst ((digits_17 : (List Int)).map V.int)) ∧ cW (forS (List.drop i (rng (0) (Int.toNat (most')))) (cell_16, digits_17) (fun s x => F__law_digits_b1 (base') (decide (((10 : Int) ^ Int.toNat 18) ≤ cell')) (s.1) (s.2) x)) K14 EE) ?_ ?_ ?_⟩
    · exact ⟨(cell'), (([] : (List Int))), _, _, rfl, (Same.refl _), S9, h7, hw⟩
    · intro i σ H19 hi hw
      obtain ⟨cell_16, digits_17, u18, G22, rfl, eG23, S20, h21, hw⟩ := hw
      have hw := cW_forS (rng_get hi) hw
      generalize (0 + (i : Int)) = x24 at hw ⊢
      have hw : cW (F__law_digits_b1 (base') (decide (((10 : Int) ^ Int.toNat 18) ≤ cell')) (cell_16) (digits_17) (x24)) _ EE := hw
      unfold F__law_digits_b1 at hw
      obtain ⟨K27, hK28, hw⟩ := cW_name hw
      refine ⟨_, rfl, _, rfl, ?_⟩
      refine iteB (fun c30 => ?_) (fun c30 => ?_)
      · have hw := cW_pos c30 hw
        refine ⟨_, rfl, (.inl ⟨rfl, _, SqL.of h21⟩), _, rfl, .inl ⟨_, rfl, ?_⟩⟩
        obtain ⟨g31, hw⟩ := cW_grd hw
        obtain ⟨g32, hw⟩ := cW_grd hw
        refine ⟨_, rfl, _, _, rfl, rfl, g31, _, _, _, rfl, rfl, h21, (app_lenM g32), ?_⟩
        generalize g33 : upd H19 p1 _ = H34
        obtain ⟨x35, h36⟩ := gen_mut g33
        have h37 : H34 p1 = some (.lst (((digits_17) ++ [(cell_16 % base')] : (List Int)).map V.int)) := snoc_map h36
        have S38 := S20.mut1 x35 (.head _) h37
        have hw := cW_bnd hw
        obtain ⟨g40, hw⟩ := cW_grd hw
        refine ⟨_, rfl, _, rfl, _, _, rfl, rfl, (divW_small g40.1 g40.2), ?_⟩
        have hw := cW_bnd hw
        have hw := cW_ok hw
        have hw := hK28 _ hw
        exact ⟨((cell_16 / base')), ((digits_17) ++ [(cell_16 % base')]), _, _, rfl, eG23, S38, h37, hw⟩
      · have hw := cW_negB c30 hw
        obtain ⟨g42, hw⟩ := cW_grd hw
        obtain ⟨g43, hw⟩ := cW_grd hw
        refine ⟨_, rfl, (.inl ⟨rfl, _, SqL.of h21⟩), _, rfl, _, _, rfl, rfl, (.inr ⟨by decide, by decide⟩), _, rfl, _, _, rfl, rfl, _, rfl, _, _, rfl, rfl, _, _, rfl, rfl, g42, _, _, rfl, rfl, (.inr ⟨by decide, by decide⟩), _, _, rfl, rfl, _, rfl, _, _, rfl, rfl, (divW_lit (by decide) (by decide)), _, rfl, _, _, rfl, rfl, g43, _, _, rfl, rfl, .inl ⟨_, rfl, ?_⟩⟩
        obtain ⟨g44, hw⟩ := cW_grd hw
        obtain ⟨g45, hw⟩ := cW_grd hw
        refine ⟨_, _, rfl, rfl, (show (0 : Int) < 2147483647 by decide), _, rfl, _, _, rfl, rfl, g44, _, _, _, rfl, rfl, h21, (app_lenM g45), ?_⟩
        generalize g46 : upd H19 p1 _ = H47
        obtain ⟨x48, h49⟩ := gen_mut g46
        have h50 : H47 p1 = some (.lst (((digits_17) ++ [(((((cell_16 * 48271) + (((x24 + 1) * (x24 + 5)) * 69621)) + ((cell_16 / 97) * x24)) % 2147483647) % base')] : (List Int)).map V.int)) := snoc_map h49
        have S51 := S20.mut1 x48 (.head _) h50
        have hw := cW_bnd hw
        have hw := cW_ok hw
        have hw := hK28 _ hw
        exact ⟨(cell_16), ((digits_17) ++ [(((((cell_16 * 48271) + (((x24 + 1) * (x24 + 5)) * 69621)) + ((cell_16 / 97) * x24)) % 2147483647) % base')]), _, _, rfl, eG23, S51, h50, hw⟩
    · intro σ H53 hw
      obtain ⟨cell_16, digits_17, u18, G56, rfl, eG57, S54, h55, hw⟩ := hw
      have hw := hK15 _ (cW_forS0 (rng_len _ _).symm hw)
      have hw : cW (F__law_digits_r1  (cell_16) (digits_17)) _ EE := hw
      unfold F__law_digits_r1 at hw
      refine ⟨_, rfl, ?_⟩
      have hw := cW_ok hw
      exact hK0 _ hw _ _ fr8 S54.b0 h55

abbrev N_Format___init__ : List Str := ["self", "width", "height", "depth", "chroma"]
theorem sc_Format___init__ : FnScope N_Format___init__ ["self", "width", "height", "depth", "chroma"] (defScope s_Format___init__) := ⟨rfl, rfl, rfl, by decide +kernel, rfl, by decide +kernel, by decide +kernel⟩
theorem ok_Format___init__ (D : InitX K mg AD.c_Format "Format" "Format.__init__" s_Format___init__ ["self", "width", "height", "depth", "chroma"] pats_Format___init__) (T : Txt w K mg AD)  : MakX P w K mg base 1 "Format" AD.c_Format (sp_Format___init__ K AD) pats_Format___init__ := by
  refine D.ok sc_Format___init__ (fun vs H Q E h => ?_) (fun f cdv A_ outer s H vs Q E hr h => ?_)
  · obtain ⟨G, p_self, dx_self, width', height', depth', chroma', rfl, _⟩ := h
    rfl
  · obtain ⟨G, p_self, dx_self, width', height', depth', chroma', rfl, sG, gM, h_self, hw⟩ := h
    refine ⟨_, (pss_cons (ps_if (pt_not (PW.pt (pw_and (pt_chain op_le op_le pe_int (pv 1) pe_int) (pw_and1 (pt_chain op_le op_le pe_int (pv 2) pe_int))))) (pss_one (ps_raise rfl (takes_of rfl rfl rfl rfl) (pmk_own PySem.F.excBase_ValueError T.xx_BadFormat T.xg_BadFormat T.xk_BadFormat (raises_own T.xb_BadFormat T.xt_BadFormat) rfl))) pss_nil)
      (pss_cons (ps_if (pt_not (pt_chain op_le op_le pe_int (pv 3) pe_int)) (pss_one (ps_raise rfl (takes_of rfl rfl rfl rfl) (pmk_own PySem.F.excBase_ValueError T.xx_BadFormat T.xg_BadFormat T.xk_BadFormat (raises_own T.xb_BadFormat T.xt_BadFormat) rfl))) pss_nil)
      (pss_cons (ps_if (pt_not (pt_chain op_le op_le pe_int (pv 4) pe_int)) (pss_one (ps_raise rfl (takes_of rfl rfl rfl rfl) (pmk_own PySem.F.excBase_ValueError T.xx_BadFormat T.xg_BadFormat T.xk_BadFormat (raises_own T.xb_BadFormat T.xt_BadFormat) rfl))) pss_nil)
      (pss_cons (ps_fld (pv 0) (pv 1) rfl)
      (pss_cons (ps_fld (pv 0) (pv 2) rfl)
      (pss_cons (ps_fld (pv 0) (pv 3) rfl)
      (pss_one (ps_fld (pv 0) (pv 4) rfl)))))))), ?_⟩
    obtain ⟨KK, EE, hK0, hE, hw⟩ := cW_gen hw
    have S0 := Sep.startM (M := [p_self]) sG (all_cons (some_ne h_self) all_nil) gM
    unfold F_Format___init__ at hw
    refine ⟨_, rfl, _, _, rfl, rfl, _, rfl, ?_⟩
    refine iteD (fun c60 => ?_) (fun c60 => ?_)
    · have hw := cW_pos c60 hw
      refine ⟨_, _, rfl, rfl, _, rfl, ?_⟩
      refine iteD (fun c61 => ?_) (fun c61 => ?_)
      · have hw := cW_pos c61 hw
        refine ⟨_, rfl, _, _, rfl, rfl, _, rfl, ?_⟩
        refine iteD (fun c62 => ?_) (fun c62 => ?_)
        · have hw := cW_pos c62 hw
          refine ⟨_, _, rfl, rfl, _, rfl, ?_⟩
          refine iteN (fun c63 => ?_) (fun c63 => ?_)
          · have hw := cW_neg c63 hw
            exact hE 1 (cW_er hw) _ (sameX_of S0.base)
          · have hw := cW_pos c63 hw
            refine ⟨_, rfl, _, _, rfl, rfl, _, rfl, ?_⟩
            refine iteD (fun c64 => ?_) (fun c64 => ?_)
            · have hw := cW_pos c64 hw
              refine ⟨_, _, rfl, rfl, _, rfl, ?_⟩
              refine iteN (fun c65 => ?_) (fun c65 => ?_)
              · have hw := cW_neg c65 hw
                exact hE 1 (cW_er hw) _ (sameX_of S0.base)
              · have hw := cW_pos c65 hw
                refine ⟨_, rfl, _, _, rfl, rfl, _, rfl, ?_⟩
                refine iteD (fun c66 => ?_) (fun c66 => ?_)
                · have hw := cW_pos c66 hw
                  refine ⟨_, _, rfl, rfl, _, rfl, ?_⟩
                  refine iteN (fun c67 => ?_) (fun c67 => ?_)
                  · have hw := cW_neg c67 hw
                    exact hE 1 (cW_er hw) _ (sameX_of S0.base)
                  · have hw := cW_pos c67 hw
                    refine ⟨_, rfl, _, rfl, _, _, _, _, rfl, h_self, T.cl_Format, T.n_Format_width, (by show 0 < 1000; decide), ?_⟩
                    generalize g68 : upd H p_self _ = H69
                    obtain ⟨x70, h71⟩ := gen_mut g68
                    have h72 : H69 p_self = some (.ins AD.c_Format dx_self [("width", V.int (width'))]) := h71
                    have S73 := S0.mut1 x70 (.head _) h72
                    refine ⟨_, rfl, _, rfl, _, _, _, _, rfl, h72, T.cl_Format, T.n_Format_height, (by show 1 < 1000; decide), ?_⟩
                    generalize g74 : upd H69 p_self _ = H75
                    obtain ⟨x76, h77⟩ := gen_mut g74
                    have h78 : H75 p_self = some (.ins AD.c_Format dx_self [("width", V.int (width')), ("height", V.int (height'))]) := h77
                    have S79 := S73.mut1 x76 (.head _) h78
                    refine ⟨_, rfl, _, rfl, _, _, _, _, rfl, h78, T.cl_Format, T.n_Format_depth, (by show 2 < 1000; decide), ?_⟩
                    generalize g80 : upd H75 p_self _ = H81
                    obtain ⟨x82, h83⟩ := gen_mut g80
                    have h84 : H81 p_self = some (.ins AD.c_Format dx_self [("width", V.int (width')), ("height", V.int (height')), ("depth", V.int (depth'))]) := h83
                    have S85 := S79.mut1 x82 (.head _) h84
                    refine ⟨_, rfl, _, rfl, _, _, _, _, rfl, h84, T.cl_Format, T.n_Format_chroma, (by show 3 < 1000; decide), ?_⟩
                    generalize g86 : upd H81 p_self _ = H87
                    obtain ⟨x88, h89⟩ := gen_mut g86
                    have h90 : H87 p_self = some (.ins AD.c_Format dx_self [("width", V.int (width')), ("height", V.int (height')), ("depth", V.int (depth')), ("chroma", V.int (chroma'))]) := h89
                    have S91 := S85.mut1 x88 (.head _) h90
                    have hw := cW_ok hw
                    exact hK0 _ hw _ (sameX_of S91.base) h90
                · have hw := cW_neg c66 hw
                  refine ⟨_, rfl, ?_⟩
                  refine iteT ?_
                  exact hE 1 (cW_er hw) _ (sameX_of S0.base)
            · have hw := cW_neg c64 hw
              refine ⟨_, rfl, ?_⟩
              refine iteT ?_
              exact hE 1 (cW_er hw) _ (sameX_of S0.base)
        · have hw := cW_neg c62 hw
          refine ⟨_, rfl, ?_⟩
          refine iteT ?_
          exact hE 1 (cW_er hw) _ (sameX_of S0.base)
      · have hw := cW_neg c61 hw
        refine iteT ?_
        exact hE 1 (cW_er hw) _ (sameX_of S0.base)
    · have hw := cW_neg c60 hw
      refine ⟨_, rfl, ?_⟩
      refine iteF ?_
      refine iteT ?_
      exact hE 1 (cW_er hw) _ (sameX_of S0.base)

abbrev N__require : List Str := ["holds", "text"]
theorem sc__require : FnScope N__require ["holds", "text"] (defScope s__require) := ⟨rfl, rfl, rfl, by decide +kernel, rfl, by decide +kernel, by decide +kernel⟩
theorem ok__require (D : DefX K mg "_require" s__require ["holds", "text"] pats__require) (T : Txt w K mg AD)  : CalX P w K mg base 1 "_require" (sp__require K AD) pats__require := by
  refine D.ok sc__require (fun vs H Q E h => ?_) (fun f cdv A_ outer s H vs Q E hr h => ?_)
  · obtain ⟨G, holds', text', rfl, _⟩ := h
    rfl
  · obtain ⟨G, holds', text', rfl, sG, hw⟩ := h
    refine ⟨_, (pss_one (ps_if (pt_not (pt_val (pv 0))) (pss_one (ps_raise rfl (takes_of rfl rfl rfl rfl) (SkE.pmk_own1 PySem.F.excBase_ValueError T.xx_BadHeader T.xg_BadHeader T.xk_BadHeader (raises_own T.xb_BadHeader T.xt_BadHeader) rfl (pv 1)))) pss_nil)), ?_⟩
    obtain ⟨KK, EE, hK0, hE, hw⟩ := cW_gen hw
    have S0 := Sep.startG sG
    unfold F__require at hw
    refine ⟨_, rfl, _, rfl, ?_⟩
    refine iteBN (fun c92 => ?_) (fun c92 => ?_)
    · have hw := cW_negB c92 hw
      refine ⟨_, rfl, ?_⟩
      exact hE 3 (cW_er hw)
    · have hw := cW_pos c92 hw
      have hw := cW_ok hw
      exact hK0 _ hw

abbrev N_Settings___init__ : List Str := ["self", "fmt", "slots", "rows", "deblock", "offset", "layers"]
theorem sc_Settings___init__ : FnScope N_Settings___init__ ["self", "fmt", "slots", "rows", "deblock", "offset", "layers"] (defScope s_Settings___init__) := ⟨rfl, rfl, rfl, by decide +kernel, rfl, by decide +kernel, by decide +kernel⟩
theorem ok_Settings___init__ (D : InitX K mg AD.c_Settings "Settings" "Settings.__init__" s_Settings___init__ ["self", "fmt", "slots", "rows", "deblock", "offset", "layers"] pats_Settings___init__) (T : Txt w K mg AD) (c__require : CalX P w K mg base 1 "_require" (sp__require K AD) pats__require) : MakX P w K mg base 2 "Settings" AD.c_Settings (sp_Settings___init__ K AD) pats_Settings___init__ := by
  refine D.ok sc_Settings___init__ (fun vs H Q E h => ?_) (fun f cdv A_ outer s H vs Q E hr h => ?_)
  · obtain ⟨G, p_self, dx_self, p_fmt, dx_fmt, fmt', slots', rows', deblock', offset', layers', rfl, _⟩ := h
    rfl
  · obtain ⟨G, p_self, dx_self, p_fmt, dx_fmt, fmt', slots', rows', deblock', offset', layers', rfl, sG, gM, h_self, h_p_fmt, hw⟩ := h
    refine ⟨_, (pss_cons (ps_expr (vx_callX c__require pat__require_0 (.head _) hr (by decide) (takes_of rfl rfl rfl rfl) rfl (pa_cons (pe_chain op_le op_le pe_int (pv 2) pe_int) (pa_cons pe_str pa_nil)) pk_nil))
      (pss_cons (ps_expr (vx_callX c__require pat__require_0 (.head _) hr (by decide) (takes_of rfl rfl rfl rfl) rfl (pa_cons (pe_chain op_le op_le pe_int (pv 3) pe_int) (pa_cons pe_str pa_nil)) pk_nil))
      (pss_cons (ps_expr (vx_callX c__require pat__require_0 (.head _) hr (by decide) (takes_of rfl rfl rfl rfl) rfl (pa_cons (pe_chain op_le op_le pe_int (pv 6) pe_int) (pa_cons pe_str pa_nil)) pk_nil))
      (pss_cons (ps_fld (pv 0) (pv 1) rfl)
      (pss_cons (ps_fld (pv 0) (pv 2) rfl)
      (pss_cons (ps_fld (pv 0) (pv 3) rfl)
      (pss_cons (ps_fld (pv 0) (pv 4) rfl)
      (pss_cons (ps_fld (pv 0) (pv 5) rfl)
      (pss_one (ps_fld (pv 0) (pv 6) rfl)))))))))), ?_⟩
    obtain ⟨KK, EE, hK0, hE, hw⟩ := cW_gen hw
    have S0 := Sep.startM (M := [p_self]) sG (all_cons (some_ne h_self) all_nil) gM
    unfold F_Settings___init__ at hw
    refine vv_chain (ta := (tC (V.int 1))) (tb := (tVar 2)) (tc := (tC (V.int 4))) (r := (rI0 fun i j => V.bl (decide (i ≤ j)))) (r' := (rI0 fun i j => V.bl (decide (i ≤ j)))) (x := V.int (1)) (y := V.int (slots')) (z := V.int (4)) (a := decide (1 ≤ slots')) (b := decide (slots' ≤ 4)) ?hx93 ?hy94 ?hz95 (fun Q q => ⟨_, _, rfl, rfl, q⟩) (fun Q q => ⟨_, _, rfl, rfl, q⟩) _ ?_
    case hx93 => exact val_c
    case hy94 => exact (val_var rfl)
    case hz95 => exact val_c
    refine ⟨rfl, rfl, G, _, _, rfl, S0.sG, cW_call hw (fun v96 hw => ?_) (fun e he => hE e he _ (sameX_of S0.base))⟩
    refine vv_chain (ta := (tC (V.int 1))) (tb := (tVar 3)) (tc := (tC (V.int 32))) (r := (rI0 fun i j => V.bl (decide (i ≤ j)))) (r' := (rI0 fun i j => V.bl (decide (i ≤ j)))) (x := V.int (1)) (y := V.int (rows')) (z := V.int (32)) (a := decide (1 ≤ rows')) (b := decide (rows' ≤ 32)) ?hx97 ?hy98 ?hz99 (fun Q q => ⟨_, _, rfl, rfl, q⟩) (fun Q q => ⟨_, _, rfl, rfl, q⟩) _ ?_
    case hx97 => exact val_c
    case hy98 => exact (val_var rfl)
    case hz99 => exact val_c
    refine ⟨rfl, rfl, G, _, _, rfl, S0.sG, cW_call hw (fun v100 hw => ?_) (fun e he => hE e he _ (sameX_of S0.base))⟩
    refine vv_chain (ta := (tC (V.int 1))) (tb := (tVar 6)) (tc := (tC (V.int 4))) (r := (rI0 fun i j => V.bl (decide (i ≤ j)))) (r' := (rI0 fun i j => V.bl (decide (i ≤ j)))) (x := V.int (1)) (y := V.int (layers')) (z := V.int (4)) (a := decide (1 ≤ layers')) (b := decide (layers' ≤ 4)) ?hx101 ?hy102 ?hz103 (fun Q q => ⟨_, _, rfl, rfl, q⟩) (fun Q q => ⟨_, _, rfl, rfl, q⟩) _ ?_
    case hx101 => exact val_c
    case hy102 => exact (val_var rfl)
    case hz103 => exact val_c
    refine ⟨rfl, rfl, G, _, _, rfl, S0.sG, cW_call hw (fun v104 hw => ?_) (fun e he => hE e he _ (sameX_of S0.base))⟩
    refine ⟨_, rfl, _, rfl, _, _, _, _, rfl, h_self, T.cl_Settings, T.n_Settings_fmt, (by show 0 < 1000; decide), ?_⟩
    generalize g105 : upd H p_self _ = H106
    obtain ⟨x107, h108⟩ := gen_mut g105
    have h109 : H106 p_self = some (.ins AD.c_Settings dx_self [("fmt", V.ref p_fmt)]) := h108
    have S110 := S0.mut1 x107 (.head _) h109
    refine ⟨_, rfl, _, rfl, _, _, _, _, rfl, h109, T.cl_Settings, T.n_Settings_slots, (by show 1 < 1000; decide), ?_⟩
    generalize g111 : upd H106 p_self _ = H112
    obtain ⟨x113, h114⟩ := gen_mut g111
    have h115 : H112 p_self = some (.ins AD.c_Settings dx_self [("fmt", V.ref p_fmt), ("slots", V.int (slots'))]) := h114
    have S116 := S110.mut1 x113 (.head _) h115
    refine ⟨_, rfl, _, rfl, _, _, _, _, rfl, h115, T.cl_Settings, T.n_Settings_rows, (by show 2 < 1000; decide), ?_⟩
    generalize g117 : upd H112 p_self _ = H118
    obtain ⟨x119, h120⟩ := gen_mut g117
    have h121 : H118 p_self = some (.ins AD.c_Settings dx_self [("fmt", V.ref p_fmt), ("slots", V.int (slots')), ("rows", V.int (rows'))]) := h120
    have S122 := S116.mut1 x119 (.head _) h121
    refine ⟨_, rfl, _, rfl, _, _, _, _, rfl, h121, T.cl_Settings, T.n_Settings_deblock, (by show 3 < 1000; decide), ?_⟩
    generalize g123 : upd H118 p_self _ = H124
    obtain ⟨x125, h126⟩ := gen_mut g123
    have h127 : H124 p_self = some (.ins AD.c_Settings dx_self [("fmt", V.ref p_fmt), ("slots", V.int (slots')), ("rows", V.int (rows')), ("deblock", V.bl (deblock'))]) := h126
    have S128 := S122.mut1 x125 (.head _) h127
    refine ⟨_, rfl, _, rfl, _, _, _, _, rfl, h127, T.cl_Settings, T.n_Settings_offset, (by show 4 < 1000; decide), ?_⟩
    generalize g129 : upd H124 p_self _ = H130
    obtain ⟨x131, h132⟩ := gen_mut g129
    have h133 : H130 p_self = some (.ins AD.c_Settings dx_self [("fmt", V.ref p_fmt), ("slots", V.int (slots')), ("rows", V.int (rows')), ("deblock", V.bl (deblock')), ("offset", V.bl (offset'))]) := h132
    have S134 := S128.mut1 x131 (.head _) h133
    refine ⟨_, rfl, _, rfl, _, _, _, _, rfl, h133, T.cl_Settings, T.n_Settings_layers, (by show 5 < 1000; decide), ?_⟩
    generalize g135 : upd H130 p_self _ = H136
    obtain ⟨x137, h138⟩ := gen_mut g135
    have h139 : H136 p_self = some (.ins AD.c_Settings dx_self [("fmt", V.ref p_fmt), ("slots", V.int (slots')), ("rows", V.int (rows')), ("deblock", V.bl (deblock')), ("offset", V.bl (offset')), ("layers", V.int (layers'))]) := h138
    have S140 := S134.mut1 x137 (.head _) h139
    have hw := cW_ok hw
    exact hK0 _ hw _ (sameX_of S140.base) h139

abbrev N__check_numbers : List Str := ["settings", "header"]
theorem sc__check_numbers : FnScope N__check_numbers ["settings", "header"] (defScope s__check_numbers) := ⟨rfl, rfl, rfl, by decide +kernel, rfl, by decide +kernel, by decide +kernel⟩
theorem ok__check_numbers (D : DefX K mg "_check_numbers" s__check_numbers ["settings", "header"] pats__check_numbers) (T : Txt w K mg AD) (c__require : CalX P w K mg base 1 "_require" (sp__require K AD) pats__require) : CalX P w K mg base 2 "_check_numbers" (sp__check_numbers K AD) pats__check_numbers := by
  refine D.ok sc__check_numbers (fun vs H Q E h => ?_) (fun f cdv A_ outer s H vs Q E hr h => ?_)
  · obtain ⟨G, p_settings, p_settings_fmt, dx_settings, dx_settings_fmt, settings', p_header, l_header_store, l_header_refs, dx_header, header', rfl, _⟩ := h
    rfl
  · obtain ⟨G, p_settings, p_settings_fmt, dx_settings, dx_settings_fmt, settings', p_header, l_header_store, l_header_refs, dx_header, header', rfl, sG, h_p_settings, h_p_settings_fmt, h_p_header, h_l_header_store, h_l_header_refs, hw⟩ := h
    refine ⟨_, (C8.pss_cut (ps_expr (vx_callX c__require pat__require_0 (.head _) hr (by decide) (takes_of rfl rfl rfl rfl) rfl (pa_cons (pe_chain op_le op_le pe_int (fldK (K := K) (pv 1)) (C8.pe_gc rfl T.g_GREATEST_NUMBER)) (pa_cons pe_str pa_nil)) pk_nil))
      (C8.pss_cut (ps_expr (vx_callX c__require pat__require_0 (.head _) hr (by decide) (takes_of rfl rfl rfl rfl) rfl (pa_cons (pe_cmpR (op_inS (K := K)) (fldK (K := K) (pv 1)) (C8.pe_gc (v := V.ref AD.t_KINDS) rfl T.g_KINDS) (by with_unfolding_all rfl)) (pa_cons pe_str pa_nil)) pk_nil))
      (C8.pss_cut (ps_expr (vx_callX c__require pat__require_0 (.head _) hr (by decide) (takes_of rfl rfl rfl rfl) rfl (pa_cons (pe_chain op_le op_le pe_int (fldK (K := K) (pv 1)) (C8.pe_gc rfl T.g_GREATEST_LEVEL)) (pa_cons pe_str pa_nil)) pk_nil))
      (C8.pss_cut (ps_expr (vx_callX c__require pat__require_0 (.head _) hr (by decide) (takes_of rfl rfl rfl rfl) rfl (pa_cons (pe_chain op_le op_le pe_int (fldK (K := K) (pv 1)) pe_int) (pa_cons pe_str pa_nil)) pk_nil))
      (C8.pss_cut (ps_expr (vx_callX c__require pat__require_0 (.head _) hr (by decide) (takes_of rfl rfl rfl rfl) rfl (pa_cons (pe_or (pe_cmp (pc_eqI (fldK (K := K) (pv 1)) (C8.pe_gc rfl T.g_EVEN_WEIGHT))) (pe_one (pe_cmpR op_eq (fldK (K := K) (pv 1)) pe_str (nomark _)))) (pa_cons pe_str pa_nil)) pk_nil))
      (C8.pss_cut (ps_expr (vx_callX c__require pat__require_0 (.head _) hr (by decide) (takes_of rfl rfl rfl rfl) rfl (pa_cons (pe_chain op_le op_lt pe_int (fldK (K := K) (pv 1)) (fldK (K := K) (pv 0))) (pa_cons pe_str pa_nil)) pk_nil))
      (C8.pss_cut (ps_expr (vx_callX c__require pat__require_0 (.head _) hr (by decide) (takes_of rfl rfl rfl rfl) rfl (pa_cons (pe_chain op_le op_le (pe_un un_neg pe_int) (fldK (K := K) (pv 1)) pe_int) (pa_cons pe_str pa_nil)) pk_nil))
      (pss_one (ps_expr (vx_callX c__require pat__require_0 (.head _) hr (by decide) (takes_of rfl rfl rfl rfl) rfl (pa_cons (pe_or (pe_cmp (pc_eqI (fldK (K := K) (pv 1)) pe_int)) (pe_one (fldK (K := K) (pv 0)))) (pa_cons pe_str pa_nil)) pk_nil)))))))))), ?_⟩
    obtain ⟨KK, EE, hK0, hE, hw⟩ := cW_gen hw
    have S0 := Sep.startG sG
    unfold F__check_numbers at hw
    refine ⟨fun σ H' => ∃ (G' : Hp), σ = [some (V.ref p_settings), some (V.ref p_header)] ∧ Same G G' ∧ Sep [] H G G' H' [] ∧ cW (F__check_numbers_k1 (settings') (header') ) KK EE, ?_, ?_⟩
    · obtain ⟨K143, hK144, hw⟩ := cW_push hw
      refine ⟨_, rfl, _, _, _, _, _, rfl, (S0.bM _ _ h_p_header), T.cl_PictureHeader, T.n_PictureHeader_number, rfl, _, _, rfl, rfl, _, rfl, ?_⟩
      refine iteD (fun c145 => ?_) (fun c145 => ?_)
      · have hw := cW_pos c145 hw
        refine ⟨_, _, rfl, rfl, rfl, rfl, G, _, _, rfl, S0.sG, cW_call hw (fun v146 hw => ?_) (fun e he => hE e he _ S0.b0)⟩
        have hw := cW_ok hw
        have hw := hK144 _ hw
        exact ⟨_, rfl, (Same.refl _), S0, hw⟩
      · have hw := cW_neg c145 hw
        refine ⟨rfl, rfl, G, _, _, rfl, S0.sG, cW_call hw (fun v147 hw => ?_) (fun e he => hE e he _ S0.b0)⟩
        have hw := cW_ok hw
        have hw := hK144 _ hw
        exact ⟨_, rfl, (Same.refl _), S0, hw⟩
    · intro σ H148 hw
      obtain ⟨G150, rfl, eG151, S149, hw⟩ := hw
      unfold F__check_numbers_k1 at hw
      refine ⟨fun σ H' => ∃ (G' : Hp), σ = [some (V.ref p_settings), some (V.ref p_header)] ∧ Same G150 G' ∧ Sep [] H G G' H' [] ∧ cW (F__check_numbers_k2 (settings') (header') ) KK EE, ?_, ?_⟩
      · obtain ⟨K154, hK155, hw⟩ := cW_push hw
        refine ⟨_, rfl, _, _, _, _, _, rfl, (S149.bM _ _ h_p_header), T.cl_PictureHeader, T.n_PictureHeader_kind, rfl, _, _, ([("I" : Str), ("P" : Str), ("B" : Str)] : List Str), rfl, rfl, (.inr (T.ts_KINDS _)), rfl, rfl, G150, _, _, rfl, S149.sG, cW_call hw (fun v156 hw => ?_) (fun e he => hE e he _ S149.b0)⟩
        have hw := cW_ok hw
        have hw := hK155 _ hw
        exact ⟨_, rfl, (Same.refl _), S149, hw⟩
      · intro σ H157 hw
        obtain ⟨G159, rfl, eG160, S158, hw⟩ := hw
        unfold F__check_numbers_k2 at hw
        refine ⟨fun σ H' => ∃ (G' : Hp), σ = [some (V.ref p_settings), some (V.ref p_header)] ∧ Same G159 G' ∧ Sep [] H G G' H' [] ∧ cW (F__check_numbers_k3 (settings') (header') ) KK EE, ?_, ?_⟩
        · obtain ⟨K163, hK164, hw⟩ := cW_push hw
          refine ⟨_, rfl, _, _, _, _, _, rfl, (S158.bM _ _ h_p_header), T.cl_PictureHeader, T.n_PictureHeader_level, rfl, _, _, rfl, rfl, _, rfl, ?_⟩
          refine iteD (fun c165 => ?_) (fun c165 => ?_)
          · have hw := cW_pos c165 hw
            refine ⟨_, _, rfl, rfl, rfl, rfl, G159, _, _, rfl, S158.sG, cW_call hw (fun v166 hw => ?_) (fun e he => hE e he _ S158.b0)⟩
            have hw := cW_ok hw
            have hw := hK164 _ hw
            exact ⟨_, rfl, (Same.refl _), S158, hw⟩
          · have hw := cW_neg c165 hw
            refine ⟨rfl, rfl, G159, _, _, rfl, S158.sG, cW_call hw (fun v167 hw => ?_) (fun e he => hE e he _ S158.b0)⟩
            have hw := cW_ok hw
            have hw := hK164 _ hw
            exact ⟨_, rfl, (Same.refl _), S158, hw⟩
        · intro σ H168 hw
          obtain ⟨G170, rfl, eG171, S169, hw⟩ := hw
          unfold F__check_numbers_k3 at hw
          refine ⟨fun σ H' => ∃ (G' : Hp), σ = [some (V.ref p_settings), some (V.ref p_header)] ∧ Same G170 G' ∧ Sep [] H G G' H' [] ∧ cW (F__check_numbers_k4 (settings') (header') ) KK EE, ?_, ?_⟩
          · obtain ⟨K174, hK175, hw⟩ := cW_push hw
            refine ⟨_, rfl, _, _, _, _, _, rfl, (S169.bM _ _ h_p_header), T.cl_PictureHeader, T.n_PictureHeader_weight, rfl, _, _, rfl, rfl, _, rfl, ?_⟩
            refine iteD (fun c176 => ?_) (fun c176 => ?_)
            · have hw := cW_pos c176 hw
              refine ⟨_, _, rfl, rfl, rfl, rfl, G170, _, _, rfl, S169.sG, cW_call hw (fun v177 hw => ?_) (fun e he => hE e he _ S169.b0)⟩
              have hw := cW_ok hw
              have hw := hK175 _ hw
              exact ⟨_, rfl, (Same.refl _), S169, hw⟩
            · have hw := cW_neg c176 hw
              refine ⟨rfl, rfl, G170, _, _, rfl, S169.sG, cW_call hw (fun v178 hw => ?_) (fun e he => hE e he _ S169.b0)⟩
              have hw := cW_ok hw
              have hw := hK175 _ hw
              exact ⟨_, rfl, (Same.refl _), S169, hw⟩
          · intro σ H179 hw
            obtain ⟨G181, rfl, eG182, S180, hw⟩ := hw
            unfold F__check_numbers_k4 at hw
            refine ⟨fun σ H' => ∃ (G' : Hp), σ = [some (V.ref p_settings), some (V.ref p_header)] ∧ Same G181 G' ∧ Sep [] H G G' H' [] ∧ cW (F__check_numbers_k5 (settings') (header') ) KK EE, ?_, ?_⟩
            · obtain ⟨K185, hK186, hw⟩ := cW_push hw
              refine ⟨_, rfl, _, _, _, _, _, rfl, (S180.bM _ _ h_p_header), T.cl_PictureHeader, T.n_PictureHeader_weight, rfl, _, _, rfl, rfl, _, rfl, ?_⟩
              refine iteB (fun c187 => ?_) (fun c187 => ?_)
              · have hw := cW_pos c187 hw
                refine ⟨rfl, rfl, G181, _, _, rfl, S180.sG, cW_call hw (fun v188 hw => ?_) (fun e he => hE e he _ S180.b0)⟩
                have hw := cW_ok hw
                have hw := hK186 _ hw
                exact ⟨_, rfl, (Same.refl _), S180, hw⟩
              · have hw := cW_negB c187 hw
                refine ⟨_, rfl, _, _, _, _, _, rfl, (S180.bM _ _ h_p_header), T.cl_PictureHeader, T.n_PictureHeader_kind, rfl, rfl, rfl, rfl, G181, _, _, rfl, S180.sG, cW_call hw (fun v189 hw => ?_) (fun e he => hE e he _ S180.b0)⟩
                have hw := cW_ok hw
                have hw := hK186 _ hw
                exact ⟨_, rfl, (Same.refl _), S180, hw⟩
            · intro σ H190 hw
              obtain ⟨G192, rfl, eG193, S191, hw⟩ := hw
              unfold F__check_numbers_k5 at hw
              refine ⟨fun σ H' => ∃ (G' : Hp), σ = [some (V.ref p_settings), some (V.ref p_header)] ∧ Same G192 G' ∧ Sep [] H G G' H' [] ∧ cW (F__check_numbers_k6 (settings') (header') ) KK EE, ?_, ?_⟩
              · obtain ⟨K196, hK197, hw⟩ := cW_push hw
                refine ⟨_, rfl, _, _, _, _, _, rfl, (S191.bM _ _ h_p_header), T.cl_PictureHeader, T.n_PictureHeader_layer, rfl, _, _, rfl, rfl, _, rfl, ?_⟩
                refine iteD (fun c198 => ?_) (fun c198 => ?_)
                · have hw := cW_pos c198 hw
                  refine ⟨_, rfl, _, _, _, _, _, rfl, (S191.bM _ _ h_p_settings), T.cl_Settings, T.n_Settings_layers, rfl, _, _, rfl, rfl, rfl, rfl, G192, _, _, rfl, S191.sG, cW_call hw (fun v199 hw => ?_) (fun e he => hE e he _ S191.b0)⟩
                  have hw := cW_ok hw
                  have hw := hK197 _ hw
                  exact ⟨_, rfl, (Same.refl _), S191, hw⟩
                · have hw := cW_neg c198 hw
                  refine ⟨rfl, rfl, G192, _, _, rfl, S191.sG, cW_call hw (fun v200 hw => ?_) (fun e he => hE e he _ S191.b0)⟩
                  have hw := cW_ok hw
                  have hw := hK197 _ hw
                  exact ⟨_, rfl, (Same.refl _), S191, hw⟩
              · intro σ H201 hw
                obtain ⟨G203, rfl, eG204, S202, hw⟩ := hw
                unfold F__check_numbers_k6 at hw
                refine ⟨fun σ H' => ∃ (G' : Hp), σ = [some (V.ref p_settings), some (V.ref p_header)] ∧ Same G203 G' ∧ Sep [] H G G' H' [] ∧ cW (F__check_numbers_k7 (settings') (header') ) KK EE, ?_, ?_⟩
                · obtain ⟨K207, hK208, hw⟩ := cW_push hw
                  refine ⟨_, rfl, _, rfl, _, _, _, _, _, rfl, (S202.bM _ _ h_p_header), T.cl_PictureHeader, T.n_PictureHeader_edge, rfl, _, _, rfl, rfl, _, rfl, ?_⟩
                  refine iteD (fun c209 => ?_) (fun c209 => ?_)
                  · have hw := cW_pos c209 hw
                    refine ⟨_, _, rfl, rfl, rfl, rfl, G203, _, _, rfl, S202.sG, cW_call hw (fun v210 hw => ?_) (fun e he => hE e he _ S202.b0)⟩
                    have hw := cW_ok hw
                    have hw := hK208 _ hw
                    exact ⟨_, rfl, (Same.refl _), S202, hw⟩
                  · have hw := cW_neg c209 hw
                    refine ⟨rfl, rfl, G203, _, _, rfl, S202.sG, cW_call hw (fun v211 hw => ?_) (fun e he => hE e he _ S202.b0)⟩
                    have hw := cW_ok hw
                    have hw := hK208 _ hw
                    exact ⟨_, rfl, (Same.refl _), S202, hw⟩
                · intro σ H212 hw
                  obtain ⟨G214, rfl, eG215, S213, hw⟩ := hw
                  unfold F__check_numbers_k7 at hw
                  refine ⟨_, rfl, _, _, _, _, _, rfl, (S213.bM _ _ h_p_header), T.cl_PictureHeader, T.n_PictureHeader_edge, rfl, _, _, rfl, rfl, _, rfl, ?_⟩
                  refine iteB (fun c216 => ?_) (fun c216 => ?_)
                  · have hw := cW_pos c216 hw
                    refine ⟨rfl, rfl, G214, _, _, rfl, S213.sG, cW_call hw (fun v217 hw => ?_) (fun e he => hE e he _ S213.b0)⟩
                    have hw := cW_ok hw
                    exact hK0 _ hw _ S213.b0
                  · have hw := cW_negB c216 hw
                    refine ⟨_, rfl, _, _, _, _, _, rfl, (S213.bM _ _ h_p_settings), T.cl_Settings, T.n_Settings_deblock, rfl, rfl, rfl, G214, _, _, rfl, S213.sG, cW_call hw (fun v218 hw => ?_) (fun e he => hE e he _ S213.b0)⟩
                    have hw := cW_ok hw
                    exact hK0 _ hw _ S213.b0

abbrev N__check_slots : List Str := ["settings", "header", "slot", "ascending", "counts"]
theorem sc__check_slots : FnScope N__check_slots ["settings", "header"] (defScope s__check_slots) := ⟨rfl, rfl, rfl, by decide +kernel, rfl, by decide +kernel, by decide +kernel⟩
theorem ok__check_slots (D : DefX K mg "_check_slots" s__check_slots ["settings", "header"] pats__check_slots) (T : Txt w K mg AD) (c__require : CalX P w K mg base 1 "_require" (sp__require K AD) pats__require) : CalX P w K mg base 2 "_check_slots" (sp__check_slots K AD) pats__check_slots := by
  refine D.ok sc__check_slots (fun vs H Q E h => ?_) (fun f cdv A_ outer s H vs Q E hr h => ?_)
  · obtain ⟨G, p_settings, p_settings_fmt, dx_settings, dx_settings_fmt, settings', p_header, l_header_store, l_header_refs, dx_header, header', rfl, _⟩ := h
    rfl
  · obtain ⟨G, p_settings, p_settings_fmt, dx_settings, dx_settings_fmt, settings', p_header, l_header_store, l_header_refs, dx_header, header', rfl, sG, h_p_settings, h_p_settings_fmt, h_p_header, h_l_header_store, h_l_header_refs, hw⟩ := h
    refine ⟨_, (pss_cons (ps_for (passes_of rfl) rfl (pi_listK (K := K) (pe_op op_cat (fldK (K := K) (pv 1)) (fldK (K := K) (pv 1)))) (pg_name (i := 2) sc__check_slots.nd rfl (Or.inl rfl)) (pss_one (ps_expr (vx_callX c__require pat__require_0 (.head _) hr (by decide) (takes_of rfl rfl rfl rfl) rfl (pa_cons (pe_chain op_le op_lt pe_int (pv 2) (fldK (K := K) (pv 0))) (pa_cons pe_str pa_nil)) pk_nil))))
      (pss_cons (ps_set (i := 3) sc__check_slots.nd rfl (Or.inl rfl) (pe_callB (cr_sortSet (w := w) rfl) (by rfl) T.b_sorted (by decide +kernel) (pa_cons (pe_callTy (cr_setI (K := K) (w := w) rfl) (by rfl) T.b_set (by decide +kernel) (pa_cons (fldK (K := K) (pv 1)) pa_nil)) pa_nil)))
      (pss_cons (ps_expr (vx_callX c__require pat__require_0 (.head _) hr (by decide) (takes_of rfl rfl rfl rfl) rfl (pa_cons (pe_cmpR (op_eqT (encOk_L encOk_int) hr.units) (fldK (K := K) (pv 1)) (pv 3) (nomark _)) (pa_cons pe_str pa_nil)) pk_nil))
      (pss_cons (ps_set (i := 4) sc__check_slots.nd rfl (Or.inl rfl) (pe_ix (ix_DA (w := w) (K := K)) (C8.pe_gc (v := V.ref AD.t_REF_COUNTS) rfl T.g_REF_COUNTS) (fldK (K := K) (pv 1)) (fun _ _ => rfl)))
      (pss_one (ps_expr (vx_callX c__require pat__require_0 (.head _) hr (by decide) (takes_of rfl rfl rfl rfl) rfl (pa_cons (pe_cmpR (op_inI (K := K)) (pe_callB (call_lenLiK (K := K)) (by rfl) T.b_len (by decide +kernel) (pa_cons (fldK (K := K) (pv 1)) pa_nil)) (pv 4) (by with_unfolding_all rfl)) (pa_cons pe_str pa_nil)) pk_nil))))))), ?_⟩
    obtain ⟨KK, EE, hK0, hE, hw⟩ := cW_gen hw
    have S0 := Sep.startG sG
    unfold F__check_slots at hw
    obtain ⟨g219, hw⟩ := cW_grd hw
    refine ⟨_, rfl, _, _, _, _, _, rfl, (S0.bM _ _ h_p_header), T.cl_PictureHeader, T.n_PictureHeader_store, rfl, _, rfl, _, _, _, _, _, rfl, (S0.bM _ _ h_p_header), T.cl_PictureHeader, T.n_PictureHeader_refs, rfl, _, _, _, _, rfl, rfl, (S0.bM _ _ h_l_header_store), (S0.bM _ _ h_l_header_refs), (cat_lenM g219), fun p220 n221 => ?_⟩
    generalize g222 : upd H p220 _ = H223
    obtain ⟨e224, h225⟩ := gen_new n221 g222
    have h226 : H223 p220 = some (.lst (((header'.store) ++ (header'.refs) : (List Int)).map V.int)) := cat_map h225
    have fr227 := S0.free n221
    have S228 := S0.new n221 e224 h226 fr227
    obtain ⟨K231, hK232, hw⟩ := cW_push hw
    refine ⟨_, rfl, ⟨_, (SqL.of h226)⟩, for_list (K := K) (a := p220) (xs := ((header'.store) ++ (header'.refs) : (List Int)).map V.int) (fun i σ H' => ∃ (u233 : Option V) (G' : Hp), σ = [some (V.ref p_settings), some (V.ref p_header), u233, none, none] ∧ Same G G' ∧ Sep [] H G G' H' [p220] ∧ H' p220 = some (.lst (((header'.store) ++ (header'.refs) : (List Int)).map V.int)) ∧ cW (forS (List.drop i ((header'.store) ++ (header'.refs))) () (fun s x => F__check_slots_b1 (settings')  x)) K231 EE) ?_ ?_ ?_ ?_⟩
    · exact ⟨_, _, rfl, (Same.refl _), S228, h226, hw⟩
    · intro i σ H234 _ hw
      obtain ⟨u233, G237, rfl, eG238, S235, h236, hw⟩ := hw
      exact (SqL.of h236)
    · intro i x σ H239 hj hw
      obtain ⟨u233, G242, rfl, eG243, S240, h241, hw⟩ := hw
      obtain ⟨x244, hx, rfl⟩ := map_get hj
      have hw := cW_forS hx hw
      have hw : cW (F__check_slots_b1 (settings')  (x244)) _ EE := hw
      unfold F__check_slots_b1 at hw
      obtain ⟨K245, hK246, hw⟩ := cW_name hw
      refine vv_chain (ta := (tC (V.int 0))) (tb := (tVar 2)) (tc := (tFld K (tVar 0) "slots")) (r := (rI0 fun i j => V.bl (decide (i ≤ j)))) (r' := (rI0 fun i j => V.bl (decide (i < j)))) (x := V.int (0)) (y := V.int (x244)) (z := V.int (settings'.slots)) (a := decide (0 ≤ x244)) (b := decide (x244 < settings'.slots)) ?hx248 ?hy249 ?hz250 (fun Q q => ⟨_, _, rfl, rfl, q⟩) (fun Q q => ⟨_, _, rfl, rfl, q⟩) _ ?_
      case hx248 => exact val_c
      case hy249 => exact (val_var rfl)
      case hz250 => exact (val_fld (val_var rfl) (S240.bM _ _ h_p_settings) T.cl_Settings T.n_Settings_slots rfl)
      refine ⟨rfl, rfl, G242, _, _, rfl, S240.sG, cW_call hw (fun v251 hw => ?_) (fun e he => hE e he _ S240.b0)⟩
      have hw := cW_ok hw
      have hw := hK246 _ hw
      exact ⟨_, _, rfl, eG243, S240, h241, hw⟩
    · intro σ H252 hw
      obtain ⟨u233, G255, rfl, eG256, S253, h254, hw⟩ := hw
      have hw := hK232 _ (cW_forS0 (by rw [List.length_map]) hw)
      have hw : cW (F__check_slots_r1 (header') ) _ EE := hw
      unfold F__check_slots_r1 at hw
      obtain ⟨g257, hw⟩ := cW_grd hw
      refine ⟨_, rfl, _, _, _, _, _, rfl, (S253.bM _ _ h_p_header), T.cl_PictureHeader, T.n_PictureHeader_store, rfl, _, _, rfl, (SqL.of (S253.bM _ _ h_l_header_store)), g257, fun p258 n259 n260 n261 => ⟨_, _, n259, rfl, upd_same, Nat.le_trans n260 g257, ?_⟩⟩
      refine fun ns262 p263 pw264 mm265 n266 => ?_
      generalize g267 : upd (upd H252 p258 _) p263 _ = H268
      obtain ⟨e269, h270, n271⟩ := gen_new2 n261 n266 g267
      obtain rfl := sortSet_of pw264 mm265
      have h272 : H268 p263 = some (.lst (((sortSet (header'.store)) : (List Int)).map V.int)) := h270
      have fr273 := S253.free n271
      have S274 := S253.new n271 e269 h272 fr273
      refine ⟨_, rfl, _, _, _, _, _, rfl, (S274.bM _ _ h_p_header), T.cl_PictureHeader, T.n_PictureHeader_store, rfl, _, rfl, _, _, (rp_mk_ints (S274.bM _ _ h_l_header_store)), (rp_mk_ints h272), rfl, rfl, G255, _, _, rfl, S274.sG, cW_call hw (fun v275 hw => ?_) (fun e he => hE e he _ S274.b0)⟩
      obtain ⟨g276, hw⟩ := cW_grd hw
      refine ⟨_, rfl, _, _, _, _, _, rfl, (S274.bM _ _ h_p_header), T.cl_PictureHeader, T.n_PictureHeader_kind, rfl, _, _, ([("I", AD.t_REF_COUNTS_0), ("P", AD.t_REF_COUNTS_1), ("B", AD.t_REF_COUNTS_2)] : List (Str × Addr)), _, rfl, rfl, T.kd_REF_COUNTS, (lookG_at (T.th_REF_COUNTS _ g276)), _, rfl, _, _, _, _, _, rfl, (S274.bM _ _ h_p_header), T.cl_PictureHeader, T.n_PictureHeader_refs, rfl, _, _, rfl, (SqL.of (S274.bM _ _ h_l_header_refs)), _, rfl, _, _, ((dictG ([("I", [0]), ("P", [1, 2]), ("B", [2])] : List (Str × List Int)) (header'.kind)) : List Int), rfl, rfl, (.inr ((T.tt_REF_COUNTS _ g276) _)), rfl, rfl, G255, _, _, rfl, S274.sG, cW_call hw (fun v277 hw => ?_) (fun e he => hE e he _ S274.b0)⟩
      have hw := cW_ok hw
      exact hK0 _ hw _ S274.b0

abbrev N_PictureHeader___init__ : List Str := ["self", "settings", "number", "kind", "level", "store", "refs", "weight", "layer", "shown", "edge"]
theorem sc_PictureHeader___init__ : FnScope N_PictureHeader___init__ ["self", "settings", "number", "kind", "level", "store", "refs", "weight", "layer", "shown", "edge"] (defScope s_PictureHeader___init__) := ⟨rfl, rfl, rfl, by decide +kernel, rfl, by decide +kernel, by decide +kernel⟩
theorem ok_PictureHeader___init__ (D : InitX K mg AD.c_PictureHeader "PictureHeader" "PictureHeader.__init__" s_PictureHeader___init__ ["self", "settings", "number", "kind", "level", "store", "refs", "weight", "layer", "shown", "edge"] (pats_PictureHeader___init__ AD)) (T : Txt w K mg AD) (c__check_numbers : CalX P w K mg base 2 "_check_numbers" (sp__check_numbers K AD) pats__check_numbers) (c__check_slots : CalX P w K mg base 2 "_check_slots" (sp__check_slots K AD) pats__check_slots) : MakX P w K mg base 3 "PictureHeader" AD.c_PictureHeader (sp_PictureHeader___init__ K AD) (pats_PictureHeader___init__ AD) := by
  refine D.ok sc_PictureHeader___init__ (fun vs H Q E h => ?_) (fun f cdv A_ outer s H vs Q E hr h => ?_)
  · obtain ⟨G, p_self, dx_self, p_settings, p_settings_fmt, dx_settings, dx_settings_fmt, settings', number', kind', level', v_store, store', v_refs, refs', weight', layer', shown', edge', rfl, _⟩ := h
    rfl
  · obtain ⟨G, p_self, dx_self, p_settings, p_settings_fmt, dx_settings, dx_settings_fmt, settings', number', kind', level', v_store, store', v_refs, refs', weight', layer', shown', edge', rfl, sG, gM, h_self, h_p_settings, h_p_settings_fmt, r_store, r_refs, hw⟩ := h
    refine ⟨_, (pss_cons (ps_fld (pv 0) (pv 2) rfl)
      (pss_cons (ps_fld (pv 0) (pv 3) rfl)
      (pss_cons (ps_fld (pv 0) (pv 4) rfl)
      (pss_cons (ps_fld (pv 0) (pe_callTy (call_listSI (K := K)) (by rfl) T.b_list (by decide +kernel) (pa_cons (pv 5) pa_nil)) rfl)
      (pss_cons (ps_fld (pv 0) (pe_callTy (call_listSI (K := K)) (by rfl) T.b_list (by decide +kernel) (pa_cons (pv 6) pa_nil)) rfl)
      (pss_cons (ps_fld (pv 0) (pv 7) rfl)
      (pss_cons (ps_fld (pv 0) (pv 8) rfl)
      (pss_cons (ps_fld (pv 0) (pv 9) rfl)
      (pss_cons (ps_fld (pv 0) (pv 10) rfl)
      (pss_cons (ps_expr (vx_callX c__check_numbers pat__check_numbers_0 (.head _) hr (by decide) (takes_of rfl rfl rfl rfl) rfl (pa_cons (pv 1) (pa_cons (pv 0) pa_nil)) pk_nil))
      (pss_one (ps_expr (vx_callX c__check_slots pat__check_slots_0 (.head _) hr (by decide) (takes_of rfl rfl rfl rfl) rfl (pa_cons (pv 1) (pa_cons (pv 0) pa_nil)) pk_nil))))))))))))), ?_⟩
    obtain ⟨KK, EE, hK0, hE, hw⟩ := cW_gen hw
    have S0 := Sep.startM (M := [p_self]) sG (all_cons (some_ne h_self) all_nil) gM
    unfold F_PictureHeader___init__ at hw
    refine ⟨_, rfl, _, rfl, _, _, _, _, rfl, h_self, T.cl_PictureHeader, T.n_PictureHeader_number, (by show 0 < 1000; decide), ?_⟩
    generalize g278 : upd H p_self _ = H279
    obtain ⟨x280, h281⟩ := gen_mut g278
    have h282 : H279 p_self = some (.ins AD.c_PictureHeader dx_self [("number", V.int (number'))]) := h281
    have S283 := S0.mut1 x280 (.head _) h282
    refine ⟨_, rfl, _, rfl, _, _, _, _, rfl, h282, T.cl_PictureHeader, T.n_PictureHeader_kind, (by show 1 < 1000; decide), ?_⟩
    generalize g284 : upd H279 p_self _ = H285
    obtain ⟨x286, h287⟩ := gen_mut g284
    have h288 : H285 p_self = some (.ins AD.c_PictureHeader dx_self [("number", V.int (number')), ("kind", V.str (kind'))]) := h287
    have S289 := S283.mut1 x286 (.head _) h288
    refine ⟨_, rfl, _, rfl, _, _, _, _, rfl, h288, T.cl_PictureHeader, T.n_PictureHeader_level, (by show 2 < 1000; decide), ?_⟩
    generalize g290 : upd H285 p_self _ = H291
    obtain ⟨x292, h293⟩ := gen_mut g290
    have h294 : H291 p_self = some (.ins AD.c_PictureHeader dx_self [("number", V.int (number')), ("kind", V.str (kind')), ("level", V.int (level'))]) := h293
    have S295 := S289.mut1 x292 (.head _) h294
    refine ⟨_, rfl, _, _, rfl, (SeqI.mono S295.bM r_store), fun p296 n297 => ?_⟩
    generalize g298 : upd H291 p296 _ = H299
    obtain ⟨e300, h301⟩ := gen_new n297 g298
    have h302 : H299 p296 = some (.lst ((store' : (List Int)).map V.int)) := h301
    have fr303 := S295.free n297
    have S304 := S295.new n297 e300 h302 fr303
    have h305 := (e300 _ _ h294)
    refine ⟨_, rfl, _, _, _, _, rfl, h305, T.cl_PictureHeader, T.n_PictureHeader_store, (by show 3 < 1000; decide), ?_⟩
    generalize g306 : upd H299 p_self _ = H307
    obtain ⟨x308, h309⟩ := gen_mut g306
    have h310 : H307 p_self = some (.ins AD.c_PictureHeader dx_self [("number", V.int (number')), ("kind", V.str (kind')), ("level", V.int (level')), ("store", V.ref p296)]) := h309
    have S311 := S304.mut1 x308 (.tail _ (.head _)) h310
    refine ⟨_, rfl, _, _, rfl, (SeqI.mono S311.bM r_refs), fun p312 n313 => ?_⟩
    generalize g314 : upd H307 p312 _ = H315
    obtain ⟨e316, h317⟩ := gen_new n313 g314
    have h318 : H315 p312 = some (.lst ((refs' : (List Int)).map V.int)) := h317
    have fr319 := S311.free n313
    have S320 := S311.new n313 e316 h318 fr319
    have h321 := (e316 _ _ h310)
    refine ⟨_, rfl, _, _, _, _, rfl, h321, T.cl_PictureHeader, T.n_PictureHeader_refs, (by show 4 < 1000; decide), ?_⟩
    generalize g322 : upd H315 p_self _ = H323
    obtain ⟨x324, h325⟩ := gen_mut g322
    have h326 : H323 p_self = some (.ins AD.c_PictureHeader dx_self [("number", V.int (number')), ("kind", V.str (kind')), ("level", V.int (level')), ("store", V.ref p296), ("refs", V.ref p312)]) := h325
    have S327 := S320.mut1 x324 (.tail _ (.tail _ (.head _))) h326
    refine ⟨_, rfl, _, rfl, _, _, _, _, rfl, h326, T.cl_PictureHeader, T.n_PictureHeader_weight, (by show 5 < 1000; decide), ?_⟩
    generalize g328 : upd H323 p_self _ = H329
    obtain ⟨x330, h331⟩ := gen_mut g328
    have h332 : H329 p_self = some (.ins AD.c_PictureHeader dx_self [("number", V.int (number')), ("kind", V.str (kind')), ("level", V.int (level')), ("store", V.ref p296), ("refs", V.ref p312), ("weight", V.int (weight'))]) := h331
    have S333 := S327.mut1 x330 (.tail _ (.tail _ (.head _))) h332
    refine ⟨_, rfl, _, rfl, _, _, _, _, rfl, h332, T.cl_PictureHeader, T.n_PictureHeader_layer, (by show 6 < 1000; decide), ?_⟩
    generalize g334 : upd H329 p_self _ = H335
    obtain ⟨x336, h337⟩ := gen_mut g334
    have h338 : H335 p_self = some (.ins AD.c_PictureHeader dx_self [("number", V.int (number')), ("kind", V.str (kind')), ("level", V.int (level')), ("store", V.ref p296), ("refs", V.ref p312), ("weight", V.int (weight')), ("layer", V.int (layer'))]) := h337
    have S339 := S333.mut1 x336 (.tail _ (.tail _ (.head _))) h338
    refine ⟨_, rfl, _, rfl, _, _, _, _, rfl, h338, T.cl_PictureHeader, T.n_PictureHeader_shown, (by show 7 < 1000; decide), ?_⟩
    generalize g340 : upd H335 p_self _ = H341
    obtain ⟨x342, h343⟩ := gen_mut g340
    have h344 : H341 p_self = some (.ins AD.c_PictureHeader dx_self [("number", V.int (number')), ("kind", V.str (kind')), ("level", V.int (level')), ("store", V.ref p296), ("refs", V.ref p312), ("weight", V.int (weight')), ("layer", V.int (layer')), ("shown", V.bl (shown'))]) := h343
    have S345 := S339.mut1 x342 (.tail _ (.tail _ (.head _))) h344
    refine ⟨_, rfl, _, rfl, _, _, _, _, rfl, h344, T.cl_PictureHeader, T.n_PictureHeader_edge, (by show 8 < 1000; decide), ?_⟩
    generalize g346 : upd H341 p_self _ = H347
    obtain ⟨x348, h349⟩ := gen_mut g346
    have h350 : H347 p_self = some (.ins AD.c_PictureHeader dx_self [("number", V.int (number')), ("kind", V.str (kind')), ("level", V.int (level')), ("store", V.ref p296), ("refs", V.ref p312), ("weight", V.int (weight')), ("layer", V.int (layer')), ("shown", V.bl (shown')), ("edge", V.int (edge'))]) := h349
    have S351 := S345.mut1 x348 (.tail _ (.tail _ (.head _))) h350
    have h352 := (x348 _ _ (x342 _ _ (x336 _ _ (x330 _ _ (x324 _ _ (e316 _ _ (x308 _ _ h302 (ne_of_none h294 n297).symm)) (ne_of_none h294 n297).symm) (ne_of_none h294 n297).symm) (ne_of_none h294 n297).symm) (ne_of_none h294 n297).symm) (ne_of_none h294 n297).symm)
    have h353 := (x348 _ _ (x342 _ _ (x336 _ _ (x330 _ _ (x324 _ _ h318 (ne_of_none h310 n313).symm) (ne_of_none h310 n313).symm) (ne_of_none h310 n313).symm) (ne_of_none h310 n313).symm) (ne_of_none h310 n313).symm)
    refine ⟨_, rfl, _, rfl, rfl, rfl, G, _, _, _, _, settings', _, _, _, _, (⟨number', kind', level', store', refs', weight', layer', shown', edge'⟩ : St_PictureHeader), rfl, S351.sG, (hide_nil (S351.bM _ _ h_p_settings)), (hide_nil (S351.bM _ _ h_p_settings_fmt)), (hide_nil h350), (hide_nil h352), (hide_nil h353), cW_call hw (fun v354 hw H355 e356 => ?_) (fun e he H2 e2 => hE e he H2 (fun b o h n => e2 _ _ ((sameX_of S351.base) b o h n)))⟩
    have S357 := S351.same e356
    have h358 := (e356 _ _ h350)
    have h359 := (e356 _ _ h352)
    have h360 := (e356 _ _ h353)
    refine ⟨_, rfl, _, rfl, rfl, rfl, G, _, _, _, _, settings', _, _, _, _, (⟨number', kind', level', store', refs', weight', layer', shown', edge'⟩ : St_PictureHeader), rfl, S357.sG, (hide_nil (S357.bM _ _ h_p_settings)), (hide_nil (S357.bM _ _ h_p_settings_fmt)), (hide_nil h358), (hide_nil h359), (hide_nil h360), cW_call hw (fun v361 hw H362 e363 => ?_) (fun e he H2 e2 => hE e he H2 (fun b o h n => e2 _ _ ((sameX_of S357.base) b o h n)))⟩
    have S364 := S357.same e363
    have h365 := (e363 _ _ h358)
    have h366 := (e363 _ _ h359)
    have h367 := (e363 _ _ h360)
    have hw := cW_ok hw
    exact hK0 _ hw _ _ _ (sameX_of S364.base) fr303 fr319 (ne_of_none (x308 _ _ h302 (ne_of_none h294 n297).symm) n313) h365 h366 h367

abbrev N_Format_planes : List Str := ["self"]
theorem sc_Format_planes : FnScope N_Format_planes ["self"] (defScope s_Format_planes) := ⟨rfl, rfl, rfl, by decide +kernel, rfl, by decide +kernel, by decide +kernel⟩
theorem ok_Format_planes (D : PropX K AD.c_Format "Format.planes" "planes" s_Format_planes ["self"] pats_Format_planes) (T : Txt w K mg AD)  : PropY P w K mg base 1 AD.c_Format "planes" (sp_Format_planes K AD) pats_Format_planes := by
  refine D.ok T.cl_Format sc_Format_planes (fun vs H Q E h => ?_) (fun f cdv A_ outer s H vs Q E hr h => ?_)
  · obtain ⟨G, p_self, dx_self, self', rfl, _⟩ := h
    rfl
  · obtain ⟨G, p_self, dx_self, self', rfl, sG, h_p_self, hw⟩ := h
    refine ⟨_, (pss_one (ps_ret (pe_ifExp (pt_cmp (pc_eqI (fldK (K := K) (pv 0)) pe_int)) pe_int pe_int))), ?_⟩
    obtain ⟨KK, EE, hK0, hE, hw⟩ := cW_gen hw
    have S0 := Sep.startG sG
    unfold F_Format_planes at hw
    refine vv_if (vt_cmp (vv_cmp (val_fld (val_var rfl) (S0.bM _ _ h_p_self) T.cl_Format T.n_Format_chroma rfl) val_c (fun Q q => ⟨_, _, rfl, rfl, q⟩))) val_c val_c _ ?_
    have hw := cW_ok hw
    exact hK0 _ hw _ S0.b0

abbrev N_Format_blocks : List Str := ["self"]
theorem sc_Format_blocks : FnScope N_Format_blocks ["self"] (defScope s_Format_blocks) := ⟨rfl, rfl, rfl, by decide +kernel, rfl, by decide +kernel, by decide +kernel⟩
theorem ok_Format_blocks (D : MethX K AD.c_Format "Format.blocks" "blocks" s_Format_blocks ["self"] pats_Format_blocks) (T : Txt w K mg AD)  : MetX P w K mg base 1 AD.c_Format "blocks" (sp_Format_blocks K AD) pats_Format_blocks := by
  refine D.ok T.cl_Format sc_Format_blocks (fun vs H Q E h => ?_) (fun f cdv A_ outer s H vs Q E hr h => ?_)
  · obtain ⟨G, p_self, dx_self, self', rfl, _⟩ := h
    rfl
  · obtain ⟨G, p_self, dx_self, self', rfl, sG, h_p_self, hw⟩ := h
    refine ⟨_, (pss_one (ps_ret (pe_tup (pa_cons (pe_op op_fdivW (pe_op op_sub (pe_op op_add (fldK (K := K) (pv 0)) (C8.pe_gc rfl T.g_BLOCK)) pe_int) (C8.pe_gc rfl T.g_BLOCK)) (pa_cons (pe_op op_fdivW (pe_op op_sub (pe_op op_add (fldK (K := K) (pv 0)) (C8.pe_gc rfl T.g_BLOCK)) pe_int) (C8.pe_gc rfl T.g_BLOCK)) pa_nil))))), ?_⟩
    obtain ⟨KK, EE, hK0, hE, hw⟩ := cW_gen hw
    have S0 := Sep.startG sG
    unfold F_Format_blocks at hw
    refine ⟨_, rfl, _, _, _, _, _, rfl, (S0.bM _ _ h_p_self), T.cl_Format, T.n_Format_width, rfl, _, _, rfl, rfl, _, _, rfl, rfl, _, _, rfl, rfl, (divW_lit (by decide) (by decide)), _, rfl, _, _, _, _, _, rfl, (S0.bM _ _ h_p_self), T.cl_Format, T.n_Format_height, rfl, _, _, rfl, rfl, _, _, rfl, rfl, _, _, rfl, rfl, (divW_lit (by decide) (by decide)), (by show 2 ≤ sizeLine; decide), fun p371 n372 => ?_⟩
    generalize g373 : upd H p371 _ = H374
    obtain ⟨e375, h376⟩ := gen_new n372 g373
    have h377 : H374 p371 = some (.tup [V.int ((((self'.width + 8) - 1) / 8)), V.int ((((self'.height + 8) - 1) / 8))]) := h376
    have fr378 := S0.free n372
    obtain ⟨G380, eG381, hg382, S379⟩ := S0.grow n372 e375 h377 fr378
    have hw := cW_ok hw
    exact hK0 _ hw _ _ _ S379.b0 S379.g0 S379.sG S379.gn (rp_mk2 hg382 (.int _) (.int _))

abbrev N_Format__plane_size : List Str := ["self", "plane", "width", "height"]
theorem sc_Format__plane_size : FnScope N_Format__plane_size ["self", "plane", "width", "height"] (defScope s_Format__plane_size) := ⟨rfl, rfl, rfl, by decide +kernel, rfl, by decide +kernel, by decide +kernel⟩
theorem ok_Format__plane_size (D : MethX K AD.c_Format "Format._plane_size" "_plane_size" s_Format__plane_size ["self", "plane", "width", "height"] pats_Format__plane_size) (T : Txt w K mg AD) (c_Format_planes : PropY P w K mg base 1 AD.c_Format "planes" (sp_Format_planes K AD) pats_Format_planes) : MetX P w K mg base 3 AD.c_Format "_plane_size" (sp_Format__plane_size K AD) pats_Format__plane_size := by
  refine D.ok T.cl_Format sc_Format__plane_size (fun vs H Q E h => ?_) (fun f cdv A_ outer s H vs Q E hr h => ?_)
  · obtain ⟨G, p_self, dx_self, self', plane', width', height', rfl, _⟩ := h
    rfl
  · obtain ⟨G, p_self, dx_self, self', plane', width', height', rfl, sG, h_p_self, hw⟩ := h
    refine ⟨_, (pss_cons (ps_if (pt_not (pt_chain op_le op_lt pe_int (pv 1) (vx_propX c_Format_planes hr (by decide) (pv 0)))) (pss_one (ps_raise rfl (takes_of rfl rfl rfl rfl) (pmk_own PySem.F.excBase_ValueError T.xx_OutOfRange T.xg_OutOfRange T.xk_OutOfRange (raises_own T.xb_OutOfRange T.xt_OutOfRange) rfl))) pss_nil)
      (pss_cons (ps_if (PW.pt (pw_and (pt_cmp (pc_gt (pv 1) pe_int)) (pw_and1 (pt_cmp (pc_eqI (fldK (K := K) (pv 0)) pe_int))))) (pss_one (ps_ret (pe_tup (pa_cons (pe_op op_fdivW (pe_op op_add (pv 2) pe_int) pe_int) (pa_cons (pe_op op_fdivW (pe_op op_add (pv 3) pe_int) pe_int) pa_nil))))) pss_nil)
      (pss_one (ps_ret (pe_tup (pa_cons (pv 2) (pa_cons (pv 3) pa_nil))))))), ?_⟩
    obtain ⟨KK, EE, hK0, hE, hw⟩ := cW_gen hw
    have S0 := Sep.startG sG
    unfold F_Format__plane_size at hw
    refine ⟨_, rfl, _, _, rfl, rfl, _, rfl, ?_⟩
    refine iteD (fun c383 => ?_) (fun c383 => ?_)
    · have hw := cW_pos c383 hw
      refine ⟨_, rfl, _, _, _, rfl, (S0.bM _ _ h_p_self), G, _, _, self', rfl, S0.sG, (hide_nil (S0.bM _ _ h_p_self)), cW_callN hw (fun v384 hw H385 e386 => ?_) trivial⟩
      have S387 := S0.same e386
      refine ⟨_, _, rfl, rfl, _, rfl, ?_⟩
      refine iteN (fun c388 => ?_) (fun c388 => ?_)
      · have hw := cW_neg c388 hw
        exact hE 2 (cW_er hw) _ S387.b0
      · have hw := cW_pos c388 hw
        refine ⟨_, rfl, _, _, rfl, rfl, _, rfl, ?_⟩
        refine iteD (fun c389 => ?_) (fun c389 => ?_)
        · have hw := cW_pos c389 hw
          refine ⟨_, rfl, _, _, _, _, _, rfl, (S387.bM _ _ h_p_self), T.cl_Format, T.n_Format_chroma, rfl, _, _, rfl, rfl, _, rfl, ?_⟩
          refine iteD (fun c390 => ?_) (fun c390 => ?_)
          · have hw := cW_pos c390 hw
            refine ⟨_, rfl, _, _, rfl, rfl, _, _, rfl, rfl, (divW_lit (by decide) (by decide)), _, rfl, _, _, rfl, rfl, _, _, rfl, rfl, (divW_lit (by decide) (by decide)), (by show 2 ≤ sizeLine; decide), fun p391 n392 => ?_⟩
            generalize g393 : upd H385 p391 _ = H394
            obtain ⟨e395, h396⟩ := gen_new n392 g393
            have h397 : H394 p391 = some (.tup [V.int (((width' + 1) / 2)), V.int (((height' + 1) / 2))]) := h396
            have fr398 := S387.free n392
            obtain ⟨G400, eG401, hg402, S399⟩ := S387.grow n392 e395 h397 fr398
            have hw := cW_ok hw
            exact hK0 _ hw _ _ _ S399.b0 S399.g0 S399.sG S399.gn (rp_mk2 hg402 (.int _) (.int _))
          · have hw := cW_neg c390 hw
            refine ⟨_, rfl, _, rfl, (by show 2 ≤ sizeLine; decide), fun p403 n404 => ?_⟩
            generalize g405 : upd H385 p403 _ = H406
            obtain ⟨e407, h408⟩ := gen_new n404 g405
            have h409 : H406 p403 = some (.tup [V.int (width'), V.int (height')]) := h408
            have fr410 := S387.free n404
            obtain ⟨G412, eG413, hg414, S411⟩ := S387.grow n404 e407 h409 fr410
            have hw := cW_ok hw
            exact hK0 _ hw _ _ _ S411.b0 S411.g0 S411.sG S411.gn (rp_mk2 hg414 (.int _) (.int _))
        · have hw := cW_neg c389 hw
          refine iteF ?_
          refine ⟨_, rfl, _, rfl, (by show 2 ≤ sizeLine; decide), fun p415 n416 => ?_⟩
          generalize g417 : upd H385 p415 _ = H418
          obtain ⟨e419, h420⟩ := gen_new n416 g417
          have h421 : H418 p415 = some (.tup [V.int (width'), V.int (height')]) := h420
          have fr422 := S387.free n416
          obtain ⟨G424, eG425, hg426, S423⟩ := S387.grow n416 e419 h421 fr422
          have hw := cW_ok hw
          exact hK0 _ hw _ _ _ S423.b0 S423.g0 S423.sG S423.gn (rp_mk2 hg426 (.int _) (.int _))
    · have hw := cW_neg c383 hw
      refine ⟨_, rfl, ?_⟩
      refine iteT ?_
      exact hE 2 (cW_er hw) _ S0.b0

abbrev N_Format_coded_size : List Str := ["self", "plane", "columns", "rows"]
theorem sc_Format_coded_size : FnScope N_Format_coded_size ["self", "plane"] (defScope s_Format_coded_size) := ⟨rfl, rfl, rfl, by decide +kernel, rfl, by decide +kernel, by decide +kernel⟩
theorem ok_Format_coded_size (D : MethX K AD.c_Format "Format.coded_size" "coded_size" s_Format_coded_size ["self", "plane"] pats_Format_coded_size) (T : Txt w K mg AD) (c_Format_blocks : MetX P w K mg base 1 AD.c_Format "blocks" (sp_Format_blocks K AD) pats_Format_blocks) (c_Format__plane_size : MetX P w K mg base 3 AD.c_Format "_plane_size" (sp_Format__plane_size K AD) pats_Format__plane_size) : MetX P w K mg base 4 AD.c_Format "coded_size" (sp_Format_coded_size K AD) pats_Format_coded_size := by
  refine D.ok T.cl_Format sc_Format_coded_size (fun vs H Q E h => ?_) (fun f cdv A_ outer s H vs Q E hr h => ?_)
  · obtain ⟨G, p_self, dx_self, self', plane', rfl, _⟩ := h
    rfl
  · obtain ⟨G, p_self, dx_self, self', plane', rfl, sG, h_p_self, hw⟩ := h
    refine ⟨_, (pss_cons (ps_asg (vx_methX0 c_Format_blocks pat_Format_blocks_0 (.head _) hr (by decide) (takes_of rfl rfl rfl rfl) (pv 0)) (pg_tupK (K := K) (n := 2) (pgs_cons (pg_name (i := 2) sc_Format_coded_size.nd rfl (Or.inl rfl)) (pgs_cons (pg_name (i := 3) sc_Format_coded_size.nd rfl (Or.inl rfl)) pgs_nil))))
      (pss_one (ps_ret (vx_methX c_Format__plane_size pat_Format__plane_size_0 (.head _) hr (by decide) (takes_of rfl rfl rfl rfl) (pv 0) (pa_cons (pv 1) (pa_cons (pe_op op_mul (pv 2) (C8.pe_gc rfl T.g_BLOCK)) (pa_cons (pe_op op_mul (pv 3) (C8.pe_gc rfl T.g_BLOCK)) pa_nil))) pk_nil)))), ?_⟩
    obtain ⟨KK, EE, hK0, hE, hw⟩ := cW_gen hw
    have S0 := Sep.startG sG
    unfold F_Format_coded_size at hw
    refine ⟨_, rfl, _, _, _, rfl, (S0.bM _ _ h_p_self), rfl, rfl, rfl, G, _, _, self', rfl, S0.sG, (hide_nil (S0.bM _ _ h_p_self)), cW_call hw (fun v427 hw v430 H428 G431 e429 eG432 sG433 hn434 r435 => ?_) (fun e he H2 e2 => hE e he H2 (Same.trans S0.b0 e2))⟩
    have S436 := S0.step e429 eG432 sG433 hn434
    obtain ⟨a437, v439, v440, rfl, h438, r441, r442⟩ := rp_tup2 r435
    obtain rfl := rp_int r441
    obtain rfl := rp_int r442
    refine ⟨_, _, rfl, (SqT.of (S436.sG _ _ h438)), rfl, _, _, rfl, _, _, rfl, rfl, _, rfl, _, _, _, rfl, (S436.bM _ _ h_p_self), rfl, _, rfl, _, rfl, _, _, rfl, rfl, (.inr ⟨by decide, by decide⟩), _, rfl, _, _, rfl, rfl, (.inr ⟨by decide, by decide⟩), rfl, rfl, G431, _, _, self', _, _, _, rfl, S436.sG, (hide_nil (S436.bM _ _ h_p_self)), cW_call hw (fun v443 hw v446 H444 G447 e445 eG448 sG449 hn450 r451 => ?_) (fun e he H2 e2 => hE e he H2 (Same.trans S436.b0 e2))⟩
    have S452 := S436.step e445 eG448 sG449 hn450
    obtain ⟨a453, v455, v456, rfl, h454, r457, r458⟩ := rp_tup2 r451
    obtain rfl := rp_int r457
    obtain rfl := rp_int r458
    have hw := cW_ok hw
    exact hK0 _ hw _ _ _ S452.b0 S452.g0 S452.sG S452.gn (rp_mk2 h454 (.int _) (.int _))

abbrev N__law_planes : List Str := ["cell", "fmt", "top", "planes", "plane", "size", "digits", "rows", "j", "i"]
theorem sc__law_planes : FnScope N__law_planes ["cell", "fmt", "top"] (defScope s__law_planes) := ⟨rfl, rfl, rfl, by decide +kernel, rfl, by decide +kernel, by decide +kernel⟩
theorem ok__law_planes (D : DefX K mg "_law_planes" s__law_planes ["cell", "fmt", "top"] pats__law_planes) (T : Txt w K mg AD) (c_Format_coded_size : MetX P w K mg base 4 AD.c_Format "coded_size" (sp_Format_coded_size K AD) pats_Format_coded_size) (c__law_digits : CalX P w K mg base 1 "_law_digits" (sp__law_digits K AD) pats__law_digits) (c_Format_planes : PropY P w K mg base 1 AD.c_Format "planes" (sp_Format_planes K AD) pats_Format_planes) : CalX P w K mg base 5 "_law_planes" (sp__law_planes K AD) pats__law_planes := by
  refine D.ok sc__law_planes (fun vs H Q E h => ?_) (fun f cdv A_ outer s H vs Q E hr h => ?_)
  · obtain ⟨G, cell', p_fmt, dx_fmt, fmt', top', rfl, _⟩ := h
    rfl
  · obtain ⟨G, cell', p_fmt, dx_fmt, fmt', top', rfl, sG, h_p_fmt, hw⟩ := h
    refine ⟨_, (pss_cons (ps_set (i := 3) sc__law_planes.nd rfl (Or.inl rfl) (pe_lst pa_nil))
      (pss_cons (ps_for (passes_of rfl) rfl (pi_range1 rfl T.b_range (pa_cons (vx_propX c_Format_planes hr (by decide) (pv 1)) pa_nil)) (pg_name (i := 4) sc__law_planes.nd rfl (Or.inl rfl)) (pss_cons (ps_set (i := 5) sc__law_planes.nd rfl (Or.inl rfl) (vx_methX c_Format_coded_size pat_Format_coded_size_0 (.head _) hr (by decide) (takes_of rfl rfl rfl rfl) (pv 1) (pa_cons (pv 4) pa_nil) pk_nil))
      (pss_cons (ps_set (i := 6) sc__law_planes.nd rfl (Or.inr rfl) (vx_callX c__law_digits pat__law_digits_0 (.head _) hr (by decide) (takes_of rfl rfl rfl rfl) rfl (pa_cons (pe_op op_add (pv 0) (pe_op op_mul pe_int (pv 4))) (pa_cons (pe_op op_add (pv 2) pe_int) (pa_cons pe_int pa_nil))) pk_nil))
      (pss_cons (ps_set (i := 7) sc__law_planes.nd rfl (Or.inl rfl) (pe_lst pa_nil))
      (pss_cons (ps_for (passes_of rfl) rfl (pi_range1 rfl T.b_range (pa_cons (pe_ix (ix_tupK (K := K)) (pv 5) pe_int (fun _ _ => rfl)) pa_nil)) (pg_name (i := 8) sc__law_planes.nd rfl (Or.inr rfl)) (pss_one (ps_if (pt_cmp (pc_eqI (pe_op op_mod (pe_op op_fdivW (pv 0) pe_int) pe_int) pe_int)) (pss_one (ps_expr (pe_bm PySem.F.plainAttrs_list PySem.F.slot_list_append PySem.F.type_list_append mt_append (pv 7) (pa_cons (pe_lc (own := [("i", 9)]) (g := gName 9) (by rfl) sc__law_planes.nd (pi_range1 rfl T.b_range (pa_cons (pe_ix (ix_tupK (K := K)) (pv 5) pe_int (fun _ _ => rfl)) pa_nil)) (blkOk_by (own := [("i", 9)]) (N := N__law_planes) (sc := defScope s__law_planes) (by decide +kernel)) (fun _ _ _ _ _ => (pg_name (i := 9) sc__law_planes.nd rfl (Or.inl rfl))) (fun _ _ _ _ _ => pts_nil) (fun _ _ _ _ _ => (pe_ix (ix_listK (K := K)) (pv 6) (pe_op op_mod (pe_op op_add (pe_op op_mul pe_int (pv 8)) (pv 9)) pe_int) (fun _ _ => rfl)))) pa_nil)))) (pss_one (ps_if (pt_cmp (pc_eqI (pe_op op_mod (pe_op op_fdivW (pv 0) pe_int) pe_int) pe_int)) (pss_one (ps_expr (pe_bm PySem.F.plainAttrs_list PySem.F.slot_list_append PySem.F.type_list_append mt_append (pv 7) (pa_cons (pe_lc (own := [("i", 9)]) (g := gName 9) (by rfl) sc__law_planes.nd (pi_range1 rfl T.b_range (pa_cons (pe_ix (ix_tupK (K := K)) (pv 5) pe_int (fun _ _ => rfl)) pa_nil)) (blkOk_by (own := [("i", 9)]) (N := N__law_planes) (sc := defScope s__law_planes) (by decide +kernel)) (fun _ _ _ _ _ => (pg_name (i := 9) sc__law_planes.nd rfl (Or.inl rfl))) (fun _ _ _ _ _ => pts_nil) (fun _ _ _ _ _ => (pe_op op_mod (pe_callTy call_int1 (by rfl) T.b_int (by decide +kernel) (pa_cons (pe_op op_add (pe_op op_add (pv 0) (pe_op op_mul pe_int (pv 9))) (pe_op op_mul pe_int (pv 8))) pa_nil)) (pe_op op_add (pv 2) pe_int)))) pa_nil)))) (pss_one (ps_expr (pe_bm PySem.F.plainAttrs_list PySem.F.slot_list_append PySem.F.type_list_append mt_append (pv 7) (pa_cons (pe_lc (own := [("i", 9)]) (g := gName 9) (by rfl) sc__law_planes.nd (pi_range1 rfl T.b_range (pa_cons (pe_ix (ix_tupK (K := K)) (pv 5) pe_int (fun _ _ => rfl)) pa_nil)) (blkOk_by (own := [("i", 9)]) (N := N__law_planes) (sc := defScope s__law_planes) (by decide +kernel)) (fun _ _ _ _ _ => (pg_name (i := 9) sc__law_planes.nd rfl (Or.inl rfl))) (fun _ _ _ _ _ => pts_nil) (fun _ _ _ _ _ => (pe_op op_mod (pe_callTy call_int1 (by rfl) T.b_int (by decide +kernel) (pa_cons (pe_op op_add (pe_ix (ix_listK (K := K)) (pv 6) pe_int (fun _ _ => rfl)) (pe_op op_mul (pe_op op_add (pe_op op_fdivW (pv 9) pe_int) (pe_op op_fdivW (pv 8) pe_int)) pe_int)) pa_nil)) (pe_op op_add (pv 2) pe_int)))) pa_nil)))))))))
      (pss_one (ps_expr (pe_bm PySem.F.plainAttrs_list PySem.F.slot_list_append PySem.F.type_list_append mt_append (pv 3) (pa_cons (pv 7) pa_nil)))))))))
      (pss_one (ps_ret (pv 3))))), ?_⟩
    obtain ⟨KK, EE, hK0, hE, hw⟩ := cW_gen hw
    have S0 := Sep.startG sG
    unfold F__law_planes at hw
    refine ⟨(by show 0 ≤ sizeLine; decide), fun p459 n460 => ?_⟩
    generalize g461 : upd H p459 _ = H462
    obtain ⟨e463, h464⟩ := gen_new n460 g461
    have h465 : H462 p459 = some (.lst ([])) := h464
    have fr466 := S0.free n460
    have S467 := S0.new n460 e463 h465 fr466
    have d468 : RpAll G ([]) ((([] : (List (List (List Int)))) : (List (List (List Int)))).map (encL (encL PyData.int))) := RpAll.nil
    refine ⟨_, rfl, _, _, _, rfl, (S467.bM _ _ h_p_fmt), G, _, _, fmt', rfl, S467.sG, (hide_nil (S467.bM _ _ h_p_fmt)), cW_callN hw (fun v469 hw H470 e471 => ?_) trivial⟩
    have S472 := S467.same e471
    obtain ⟨g473, hw⟩ := cW_grd hw
    obtain ⟨K477, hK478, hw⟩ := cW_push hw
    refine ⟨_, rfl, g473.1, g473.2, for_range (lo := 0) (n := Int.toNat (v469)) (fun i σ H' => ∃ (planes_479 : (List (List (List Int)))) (vs480 : List V) (u481 : Option V) (u482 : Option V) (u483 : Option V) (u484 : Option V) (u485 : Option V) (G' : Hp), σ = [some (V.int (cell')), some (V.ref p_fmt), some (V.int (top')), some (V.ref p459), u481, u482, u483, u484, u485, none] ∧ Same G G' ∧ Sep [] H G G' H' [p459] ∧ H' p459 = some (.lst (vs480)) ∧ RpAll G' (vs480) ((planes_479 : (List (List (List Int)))).map (encL (encL PyData.int))) ∧ cW (forS (List.drop i (rng (0) (Int.toNat (v469)))) planes_479 (fun s x => F__law_planes_b1 (cell') (fmt') (top') s x)) K477 EE) ?_ ?_ ?_⟩
    · have h486 := (e471 _ _ h465)
      exact ⟨(([] : (List (List (List Int))))), _, _, _, _, _, _, _, rfl, (Same.refl _), S472, h486, d468, hw⟩
    · intro i σ H487 hi hw
      obtain ⟨planes_479, vs480, u481, u482, u483, u484, u485, G491, rfl, eG492, S488, h489, d490, hw⟩ := hw
      have hw := cW_forS (rng_get hi) hw
      generalize (0 + (i : Int)) = x493 at hw ⊢
      have hw : cW (F__law_planes_b1 (cell') (fmt') (top') (planes_479) (x493)) _ EE := hw
      unfold F__law_planes_b1 at hw
      obtain ⟨K495, hK496, hw⟩ := cW_name hw
      refine ⟨_, rfl, _, _, _, rfl, (S488.bM _ _ h_p_fmt), rfl, _, rfl, rfl, rfl, G491, _, _, fmt', _, rfl, S488.sG, (hide_nil (S488.bM _ _ h_p_fmt)), cW_call hw (fun v498 hw v501 H499 G502 e500 eG503 sG504 hn505 r506 => ?_) (fun e he H2 e2 => hE e he H2 (Same.trans S488.b0 e2))⟩
      have S507 := S488.step e500 eG503 sG504 hn505
      obtain ⟨a508, v510, v511, rfl, h509, r512, r513⟩ := rp_tup2 r506
      obtain rfl := rp_int r512
      obtain rfl := rp_int r513
      refine ⟨_, rfl, _, rfl, _, _, rfl, rfl, (.inl ⟨by decide, by decide⟩), _, _, rfl, rfl, _, rfl, _, _, rfl, rfl, rfl, rfl, G502, _, _, _, rfl, S507.sG, cW_call hw (fun v514 hw p517 H515 n518 e516 h519 => ?_) (fun e he H2 e2 => hE e he H2 (Same.trans S507.b0 e2))⟩
      have h520 : H515 p517 = some (.lst ((v514 : (List Int)).map V.int)) := h519
      have fr521 := S507.free n518
      have S522 := S507.new n518 e516 h520 fr521
      refine ⟨(by show 0 ≤ sizeLine; decide), fun p523 n524 => ?_⟩
      generalize g525 : upd H515 p523 _ = H526
      obtain ⟨e527, h528⟩ := gen_new n524 g525
      have h529 : H526 p523 = some (.lst ([])) := h528
      have fr530 := S522.free n524
      have S531 := S522.new n524 e527 h529 fr530
      have d532 : RpAll G502 ([]) ((([] : (List (List Int))) : (List (List Int))).map (encL PyData.int)) := RpAll.nil
      obtain ⟨g533, hw⟩ := cW_grd hw
      obtain ⟨K539, hK540, hw⟩ := cW_push hw
      refine ⟨_, rfl, _, _, _, _, rfl, rfl, (SqT.of (S531.sG _ _ h509)), rfl, _, rfl, g533.1, g533.2, for_range (lo := 0) (n := Int.toNat (v498.2)) (fun i σ H' => ∃ (rows_541 : (List (List Int))) (vs542 : List V) (u543 : Option V) (G' : Hp), σ = [some (V.int (cell')), some (V.ref p_fmt), some (V.int (top')), some (V.ref p459), some (V.int (x493)), some (V.ref a508), some (V.ref p517), some (V.ref p523), u543, none] ∧ Same G502 G' ∧ Sep [] H G G' H' [p459, p517, p523] ∧ H' p459 = some (.lst (vs480)) ∧ H' p517 = some (.lst ((v514 : (List Int)).map V.int)) ∧ H' p523 = some (.lst (vs542)) ∧ RpAll G' (vs542) ((rows_541 : (List (List Int))).map (encL PyData.int)) ∧ cW (forS (List.drop i (rng (0) (Int.toNat (v498.2)))) rows_541 (fun s x => F__law_planes_b2 (cell') (top') (v498) (v514) s x)) K539 EE) ?_ ?_ ?_⟩
      · have h544 := (e527 _ _ (e516 _ _ (e500 _ _ h489)))
        have h545 := (e527 _ _ h520)
        exact ⟨(([] : (List (List Int)))), _, _, _, rfl, (Same.refl _), (S531.sub (all_cons (.tail _ (.tail _ (.head _))) (all_cons (.tail _ (.head _)) (all_cons (.head _) all_nil)))), h544, h545, h529, d532, hw⟩
      · intro i σ H546 hi hw
        obtain ⟨rows_541, vs542, u543, G552, rfl, eG553, S547, h548, h549, h550, d551, hw⟩ := hw
        have hw := cW_forS (rng_get hi) hw
        generalize (0 + (i : Int)) = x554 at hw ⊢
        have hw : cW (F__law_planes_b2 (cell') (top') (v498) (v514) (rows_541) (x554)) _ EE := hw
        unfold F__law_planes_b2 at hw
        obtain ⟨K556, hK557, hw⟩ := cW_name hw
        refine ⟨_, rfl, _, _, rfl, rfl, (divW_lit (by decide) (by decide)), _, _, rfl, rfl, (show (0 : Int) < 3 by decide), _, _, rfl, rfl, _, rfl, ?_⟩
        refine iteD (fun c559 => ?_) (fun c559 => ?_)
        · have hw := cW_pos c559 hw
          obtain ⟨g560, hw⟩ := cW_grd hw
          obtain ⟨K564, hK565, hw⟩ := cW_push hw
          refine ⟨_, rfl, (.inl ⟨rfl, _, SqL.of h550⟩), _, rfl, _, _, _, _, rfl, rfl, (SqT.of (S547.sG _ _ (eG553 _ _ h509))), rfl, _, rfl, g560.1, g560.2, fun D566 n567 => lc_range (lo := 0) (n := Int.toNat (v498.1)) (fun i1 H' => ∃ (G' : Hp) (acc569 : (List Int)), Same G552 G' ∧ Sep [] H G G' H' [D566, p459, p517, p523] ∧ H' p459 = some (.lst (vs480)) ∧ H' p517 = some (.lst ((v514 : (List Int)).map V.int)) ∧ H' p523 = some (.lst (vs542)) ∧ H' D566 = some (.lst ((acc569 : (List Int)).map V.int)) ∧ Same H546 H' ∧ cW (mapA (List.drop i1 (rng (0) (Int.toNat (v498.1)))) acc569 (fun x => noEr (F__law_planes_c3 (v514) (x554) x))) K564 EE) ?_ ?_ ?_⟩
          · generalize g571 : upd H546 D566 _ = H572
            obtain ⟨e573, h574⟩ := gen_new n567 g571
            have fr575 := S547.free n567
            have S576 := S547.new n567 e573 h574 fr575
            have h577 := (e573 _ _ h548)
            have h578 := (e573 _ _ h549)
            have h579 := (e573 _ _ h550)
            exact ⟨_, [], Same.refl _, S576, h577, h578, h579, h574, e573, hw⟩
          · intro i1 H580 hi hw
            obtain ⟨G583, acc585, eG584, S581, h592, h593, h594, h582, eo591, hw⟩ := hw
            obtain ⟨z595, hw⟩ := cW_mapA (rng_get hi) hw
            generalize (0 + (i1 : Int)) = x596 at hw ⊢
            have hw := cW_noEr hw
            have hw : cW (F__law_planes_c3 (v514) (x554) (x596)) _ (fun _ => False) := hw
            unfold F__law_planes_c3 at hw
            refine ⟨rfl, ?_⟩
            refine tyes_go ?_
            obtain ⟨g598, hw⟩ := cW_grd hw
            refine ⟨_, rfl, _, rfl, _, _, rfl, rfl, (.inl ⟨by decide, by decide⟩), _, rfl, _, _, rfl, rfl, _, _, rfl, rfl, (show (0 : Int) < 24 by decide), _, _, _, _, rfl, rfl, (SqL.of h593), (atI_map g598), _, h582, (app_lenM z595), ?_⟩
            generalize g599 : upd H580 D566 _ = H600
            obtain ⟨x601, h602⟩ := gen_mut g599
            have S603 := S581.mut1 x601 (.head _) h602
            have hw := cW_ok hw
            have h604 := (x601 _ _ h592 (ne_of_none h548 n567))
            have h605 := (x601 _ _ h593 (ne_of_none h549 n567))
            have h606 := (x601 _ _ h594 (ne_of_none h550 n567))
            exact ⟨_, (acc585 ++ [(itD (v514) ((((7 * x554) + x596) % 24)))]), eG584, S603, h604, h605, h606, (snoc_map h602), (same_mut eo591 x601 n567), hw⟩
          intro H607 hw
          obtain ⟨G610, acc612, eG611, S608, h619, h620, h621, h609, eo618, hw⟩ := hw
          have hw := hK565 _ (cW_mapA0 (rng_len _ _).symm hw)
          have fr622 := S547.free n567
          obtain ⟨g623, hw⟩ := cW_grd hw
          obtain ⟨G624, eG625, hg626, S627⟩ := Sep.freeze (O' := [p459, p517, p523]) S608 (.head _) h609 fr622 ((all_cons ⟨(.tail _ (.head _)), (ne_of_none h548 n567)⟩ (all_cons ⟨(.tail _ (.tail _ (.head _))), (ne_of_none h549 n567)⟩ (all_cons ⟨(.tail _ (.tail _ (.tail _ (.head _)))), (ne_of_none h550 n567)⟩ all_nil))))
          refine ⟨_, _, _, rfl, rfl, h621, (app_len (RpAll.mono eG625 (RpAll.mono eG611 d551)) g623), ?_⟩
          generalize g628 : upd H607 p523 _ = H629
          obtain ⟨x630, h631⟩ := gen_mut g628
          have h632 : H629 p523 = some (.lst (vs542 ++ [V.ref D566])) := h631
          have S633 := S627.mut1 x630 (.tail _ (.tail _ (.head _))) h632
          have d634 : RpAll G624 (vs542 ++ [V.ref D566]) (((rows_541) ++ [acc612] : (List (List Int))).map (encL PyData.int)) := app_map (RpAll.mono eG625 (RpAll.mono eG611 d551)) (RpAll.one (rp_mk_ints hg626))
          have hw := cW_bnd hw
          have hw := cW_ok hw
          have hw := hK557 _ hw
          have h636 := (x630 _ _ h619 (ne_of_none (e516 _ _ (e500 _ _ h489)) n524))
          have h637 := (x630 _ _ h620 (ne_of_none h520 n524))
          exact ⟨((rows_541) ++ [acc612]), _, _, _, rfl, (Same.trans (Same.trans eG553 eG611) eG625), S633, h636, h637, h632, d634, hw⟩
        · have hw := cW_neg c559 hw
          refine ⟨_, rfl, _, _, rfl, rfl, (divW_lit (by decide) (by decide)), _, _, rfl, rfl, (show (0 : Int) < 3 by decide), _, _, rfl, rfl, _, rfl, ?_⟩
          refine iteD (fun c638 => ?_) (fun c638 => ?_)
          · have hw := cW_pos c638 hw
            obtain ⟨g639, hw⟩ := cW_grd hw
            obtain ⟨K644, hK645, hw⟩ := cW_push hw
            refine ⟨_, rfl, (.inl ⟨rfl, _, SqL.of h550⟩), _, rfl, _, _, _, _, rfl, rfl, (SqT.of (S547.sG _ _ (eG553 _ _ h509))), rfl, _, rfl, g639.1, g639.2, fun D646 n647 => lc_range (lo := 0) (n := Int.toNat (v498.1)) (fun i1 H' => ∃ (G' : Hp) (acc649 : (List Int)), Same G552 G' ∧ Sep [] H G G' H' [D646, p459, p517, p523] ∧ H' p459 = some (.lst (vs480)) ∧ H' p517 = some (.lst ((v514 : (List Int)).map V.int)) ∧ H' p523 = some (.lst (vs542)) ∧ H' D646 = some (.lst ((acc649 : (List Int)).map V.int)) ∧ Same H546 H' ∧ cW (mapA (List.drop i1 (rng (0) (Int.toNat (v498.1)))) acc649 (fun x => noEr (F__law_planes_c4 (cell') (top') (x554) x))) K644 EE) ?_ ?_ ?_⟩
            · generalize g651 : upd H546 D646 _ = H652
              obtain ⟨e653, h654⟩ := gen_new n647 g651
              have fr655 := S547.free n647
              have S656 := S547.new n647 e653 h654 fr655
              have h657 := (e653 _ _ h548)
              have h658 := (e653 _ _ h549)
              have h659 := (e653 _ _ h550)
              exact ⟨_, [], Same.refl _, S656, h657, h658, h659, h654, e653, hw⟩
            · intro i1 H660 hi hw
              obtain ⟨G663, acc665, eG664, S661, h672, h673, h674, h662, eo671, hw⟩ := hw
              obtain ⟨z675, hw⟩ := cW_mapA (rng_get hi) hw
              generalize (0 + (i1 : Int)) = x676 at hw ⊢
              have hw := cW_noEr hw
              have hw : cW (F__law_planes_c4 (cell') (top') (x554) (x676)) _ (fun _ => False) := hw
              unfold F__law_planes_c4 at hw
              refine ⟨rfl, ?_⟩
              refine tyes_go ?_
              refine ⟨_, rfl, _, rfl, _, _, rfl, rfl, (.inl ⟨by decide, by decide⟩), _, _, rfl, rfl, _, rfl, _, _, rfl, rfl, (.inl ⟨by decide, by decide⟩), _, _, rfl, rfl, .inl ⟨_, rfl, ?_⟩⟩
              obtain ⟨g678, hw⟩ := cW_grd hw
              refine ⟨_, rfl, _, _, rfl, rfl, _, _, rfl, rfl, g678, _, h662, (app_lenM z675), ?_⟩
              generalize g679 : upd H660 D646 _ = H680
              obtain ⟨x681, h682⟩ := gen_mut g679
              have S683 := S661.mut1 x681 (.head _) h682
              have hw := cW_ok hw
              have h684 := (x681 _ _ h672 (ne_of_none h548 n647))
              have h685 := (x681 _ _ h673 (ne_of_none h549 n647))
              have h686 := (x681 _ _ h674 (ne_of_none h550 n647))
              exact ⟨_, (acc665 ++ [(((cell' + (9 * x676)) + (5 * x554)) % (top' + 1))]), eG664, S683, h684, h685, h686, (snoc_map h682), (same_mut eo671 x681 n647), hw⟩
            intro H687 hw
            obtain ⟨G690, acc692, eG691, S688, h699, h700, h701, h689, eo698, hw⟩ := hw
            have hw := hK645 _ (cW_mapA0 (rng_len _ _).symm hw)
            have fr702 := S547.free n647
            obtain ⟨g703, hw⟩ := cW_grd hw
            obtain ⟨G704, eG705, hg706, S707⟩ := Sep.freeze (O' := [p459, p517, p523]) S688 (.head _) h689 fr702 ((all_cons ⟨(.tail _ (.head _)), (ne_of_none h548 n647)⟩ (all_cons ⟨(.tail _ (.tail _ (.head _))), (ne_of_none h549 n647)⟩ (all_cons ⟨(.tail _ (.tail _ (.tail _ (.head _)))), (ne_of_none h550 n647)⟩ all_nil))))
            refine ⟨_, _, _, rfl, rfl, h701, (app_len (RpAll.mono eG705 (RpAll.mono eG691 d551)) g703), ?_⟩
            generalize g708 : upd H687 p523 _ = H709
            obtain ⟨x710, h711⟩ := gen_mut g708
            have h712 : H709 p523 = some (.lst (vs542 ++ [V.ref D646])) := h711
            have S713 := S707.mut1 x710 (.tail _ (.tail _ (.head _))) h712
            have d714 : RpAll G704 (vs542 ++ [V.ref D646]) (((rows_541) ++ [acc692] : (List (List Int))).map (encL PyData.int)) := app_map (RpAll.mono eG705 (RpAll.mono eG691 d551)) (RpAll.one (rp_mk_ints hg706))
            have hw := cW_bnd hw
            have hw := cW_ok hw
            have hw := hK557 _ hw
            have h716 := (x710 _ _ h699 (ne_of_none (e516 _ _ (e500 _ _ h489)) n524))
            have h717 := (x710 _ _ h700 (ne_of_none h520 n524))
            exact ⟨((rows_541) ++ [acc692]), _, _, _, rfl, (Same.trans (Same.trans eG553 eG691) eG705), S713, h716, h717, h712, d714, hw⟩
          · have hw := cW_neg c638 hw
            obtain ⟨g718, hw⟩ := cW_grd hw
            obtain ⟨K723, hK724, hw⟩ := cW_push hw
            refine ⟨_, rfl, (.inl ⟨rfl, _, SqL.of h550⟩), _, rfl, _, _, _, _, rfl, rfl, (SqT.of (S547.sG _ _ (eG553 _ _ h509))), rfl, _, rfl, g718.1, g718.2, fun D725 n726 => lc_range (lo := 0) (n := Int.toNat (v498.1)) (fun i1 H' => ∃ (G' : Hp) (acc728 : (List Int)), Same G552 G' ∧ Sep [] H G G' H' [D725, p459, p517, p523] ∧ H' p459 = some (.lst (vs480)) ∧ H' p517 = some (.lst ((v514 : (List Int)).map V.int)) ∧ H' p523 = some (.lst (vs542)) ∧ H' D725 = some (.lst ((acc728 : (List Int)).map V.int)) ∧ Same H546 H' ∧ cW (mapA (List.drop i1 (rng (0) (Int.toNat (v498.1)))) acc728 (fun x => noEr (F__law_planes_c5 (top') (v514) (x554) x))) K723 EE) ?_ ?_ ?_⟩
            · generalize g730 : upd H546 D725 _ = H731
              obtain ⟨e732, h733⟩ := gen_new n726 g730
              have fr734 := S547.free n726
              have S735 := S547.new n726 e732 h733 fr734
              have h736 := (e732 _ _ h548)
              have h737 := (e732 _ _ h549)
              have h738 := (e732 _ _ h550)
              exact ⟨_, [], Same.refl _, S735, h736, h737, h738, h733, e732, hw⟩
            · intro i1 H739 hi hw
              obtain ⟨G742, acc744, eG743, S740, h751, h752, h753, h741, eo750, hw⟩ := hw
              obtain ⟨z754, hw⟩ := cW_mapA (rng_get hi) hw
              generalize (0 + (i1 : Int)) = x755 at hw ⊢
              have hw := cW_noEr hw
              have hw : cW (F__law_planes_c5 (top') (v514) (x554) (x755)) _ (fun _ => False) := hw
              unfold F__law_planes_c5 at hw
              refine ⟨rfl, ?_⟩
              refine tyes_go ?_
              obtain ⟨g757, hw⟩ := cW_grd hw
              refine ⟨_, rfl, _, _, _, _, rfl, rfl, (SqL.of h752), (atI_map g757), _, rfl, _, _, rfl, rfl, (divW_lit (by decide) (by decide)), _, rfl, _, _, rfl, rfl, (divW_lit (by decide) (by decide)), _, _, rfl, rfl, _, _, rfl, rfl, (.inr ⟨by decide, by decide⟩), _, _, rfl, rfl, .inl ⟨_, rfl, ?_⟩⟩
              obtain ⟨g758, hw⟩ := cW_grd hw
              refine ⟨_, rfl, _, _, rfl, rfl, _, _, rfl, rfl, g758, _, h741, (app_lenM z754), ?_⟩
              generalize g759 : upd H739 D725 _ = H760
              obtain ⟨x761, h762⟩ := gen_mut g759
              have S763 := S740.mut1 x761 (.head _) h762
              have hw := cW_ok hw
              have h764 := (x761 _ _ h751 (ne_of_none h548 n726))
              have h765 := (x761 _ _ h752 (ne_of_none h549 n726))
              have h766 := (x761 _ _ h753 (ne_of_none h550 n726))
              exact ⟨_, (acc744 ++ [(((itD (v514) (0)) + (((x755 / 3) + (x554 / 3)) * 40)) % (top' + 1))]), eG743, S763, h764, h765, h766, (snoc_map h762), (same_mut eo750 x761 n726), hw⟩
            intro H767 hw
            obtain ⟨G770, acc772, eG771, S768, h779, h780, h781, h769, eo778, hw⟩ := hw
            have hw := hK724 _ (cW_mapA0 (rng_len _ _).symm hw)
            have fr782 := S547.free n726
            obtain ⟨g783, hw⟩ := cW_grd hw
            obtain ⟨G784, eG785, hg786, S787⟩ := Sep.freeze (O' := [p459, p517, p523]) S768 (.head _) h769 fr782 ((all_cons ⟨(.tail _ (.head _)), (ne_of_none h548 n726)⟩ (all_cons ⟨(.tail _ (.tail _ (.head _))), (ne_of_none h549 n726)⟩ (all_cons ⟨(.tail _ (.tail _ (.tail _ (.head _)))), (ne_of_none h550 n726)⟩ all_nil))))
            refine ⟨_, _, _, rfl, rfl, h781, (app_len (RpAll.mono eG785 (RpAll.mono eG771 d551)) g783), ?_⟩
            generalize g788 : upd H767 p523 _ = H789
            obtain ⟨x790, h791⟩ := gen_mut g788
            have h792 : H789 p523 = some (.lst (vs542 ++ [V.ref D725])) := h791
            have S793 := S787.mut1 x790 (.tail _ (.tail _ (.head _))) h792
            have d794 : RpAll G784 (vs542 ++ [V.ref D725]) (((rows_541) ++ [acc772] : (List (List Int))).map (encL PyData.int)) := app_map (RpAll.mono eG785 (RpAll.mono eG771 d551)) (RpAll.one (rp_mk_ints hg786))
            have hw := cW_bnd hw
            have hw := cW_ok hw
            have hw := hK557 _ hw
            have h796 := (x790 _ _ h779 (ne_of_none (e516 _ _ (e500 _ _ h489)) n524))
            have h797 := (x790 _ _ h780 (ne_of_none h520 n524))
            exact ⟨((rows_541) ++ [acc772]), _, _, _, rfl, (Same.trans (Same.trans eG553 eG771) eG785), S793, h796, h797, h792, d794, hw⟩
      · intro σ H798 hw
        obtain ⟨rows_541, vs542, u543, G804, rfl, eG805, S799, h800, h801, h802, d803, hw⟩ := hw
        have hw := hK540 _ (cW_forS0 (rng_len _ _).symm hw)
        have hw : cW (F__law_planes_r2 (planes_479) (rows_541)) _ EE := hw
        unfold F__law_planes_r2 at hw
        obtain ⟨g807, hw⟩ := cW_grd hw
        refine ⟨_, rfl, (.inl ⟨rfl, _, SqL.of h800⟩), _, rfl, ?_⟩
        obtain ⟨G808, eG809, hg810, S811⟩ := Sep.freeze (O' := [p459, p517]) S799 (.tail _ (.tail _ (.head _))) h802 fr530 ((all_cons ⟨(.head _), (ne_of_none (e516 _ _ (e500 _ _ h489)) n524)⟩ (all_cons ⟨(.tail _ (.head _)), (ne_of_none h520 n524)⟩ all_nil)))
        refine ⟨_, _, _, rfl, rfl, h800, (app_len (RpAll.mono eG809 (RpAll.mono eG805 (RpAll.mono eG503 d490))) g807), ?_⟩
        generalize g812 : upd H798 p459 _ = H813
        obtain ⟨x814, h815⟩ := gen_mut g812
        have h816 : H813 p459 = some (.lst (vs480 ++ [V.ref p523])) := h815
        have S817 := S811.mut1 x814 (.head _) h816
        have d818 : RpAll G808 (vs480 ++ [V.ref p523]) (((planes_479) ++ [rows_541] : (List (List (List Int)))).map (encL (encL PyData.int))) := app_map (RpAll.mono eG809 (RpAll.mono eG805 (RpAll.mono eG503 d490))) (RpAll.one (rp_mk_list hg810 (RpAll.mono eG809 d803)))
        have hw := cW_bnd hw
        have hw := cW_ok hw
        have hw := hK496 _ hw
        exact ⟨((planes_479) ++ [rows_541]), _, _, _, _, _, _, _, rfl, (Same.trans (Same.trans (Same.trans eG492 eG503) eG805) eG809), (S817.sub (all_cons (.head _) all_nil)), h816, d818, hw⟩
    · intro σ H820 hw
      obtain ⟨planes_479, vs480, u481, u482, u483, u484, u485, G824, rfl, eG825, S821, h822, d823, hw⟩ := hw
      have hw := hK478 _ (cW_forS0 (rng_len _ _).symm hw)
      have hw : cW (F__law_planes_r1  (planes_479)) _ EE := hw
      unfold F__law_planes_r1 at hw
      refine ⟨_, rfl, ?_⟩
      obtain ⟨G827, eG828, hg829, S830⟩ := Sep.freeze (O' := []) S821 (.head _) h822 fr466 (all_nil)
      have hw := cW_ok hw
      exact hK0 _ hw _ _ _ S830.b0 S830.g0 S830.sG S830.gn (rp_mk_list hg829 (RpAll.mono eG828 d823))

abbrev N_copy_planes : List Str := ["planes", "plane", "row"]
theorem sc_copy_planes : FnScope N_copy_planes ["planes"] (defScope s_copy_planes) := ⟨rfl, rfl, rfl, by decide +kernel, rfl, by decide +kernel, by decide +kernel⟩
theorem ok_copy_planes (D : DefX K mg "copy_planes" s_copy_planes ["planes"] pats_copy_planes) (T : Txt w K mg AD)  : CalX P w K mg base 1 "copy_planes" (sp_copy_planes K AD) pats_copy_planes := by
  refine D.ok sc_copy_planes (fun vs H Q E h => ?_) (fun f cdv A_ outer s H vs Q E hr h => ?_)
  · obtain ⟨G, v_planes, planes', rfl, _⟩ := h
    rfl
  · obtain ⟨G, v_planes, planes', rfl, sG, r_planes, hw⟩ := h
    refine ⟨_, (pss_one (ps_ret (pe_lc (own := [("plane", 1)]) (g := gName 1) (by rfl) sc_copy_planes.nd (pi_listK (K := K) (pv 0)) (blkOk_by (own := [("plane", 1)]) (N := N_copy_planes) (sc := defScope s_copy_planes) (by decide +kernel)) (fun _ _ _ _ _ => (pg_name (i := 1) sc_copy_planes.nd rfl (Or.inl rfl))) (fun _ _ _ _ _ => pts_nil) (fun _ _ _ _ _ => (pe_lc (own := [("row", 2)]) (g := gName 2) (by rfl) sc_copy_planes.nd (pi_listK (K := K) (pv 1)) (blk_relabel (blkOk_by (own := [("row", 2)]) (N := N_copy_planes) (by decide +kernel))) (fun _ _ _ _ _ => (pg_name (i := 2) sc_copy_planes.nd rfl (Or.inl rfl))) (fun _ _ _ _ _ => pts_nil) (fun _ _ _ _ _ => (pe_callTy (call_listLK (K := K)) (by rfl) T.b_list (by decide +kernel) (pa_cons (pv 2) pa_nil)))))))), ?_⟩
    obtain ⟨KK, EE, hK0, hE, hw⟩ := cW_gen hw
    have S0 := Sep.startG sG
    unfold F_copy_planes at hw
    obtain ⟨a831, vs832, rfl, h833, d834⟩ := rp_list r_planes
    obtain ⟨K836, hK837, hw⟩ := cW_push hw
    refine ⟨_, rfl, _, rfl, ⟨_, (SqL.of (S0.bM _ _ h833))⟩, fun D838 n839 => lc_list (K := K) (a := a831) (xs := vs832) (fun i1 H' => ∃ (G' : Hp) (acc841 : (List (List (List Int)))) (vs842 : List V) (L840 : List Addr), Same G G' ∧ Sep [] H G G' H' (D838 :: (L840 ++ [])) ∧ H' D838 = some (.lst vs842) ∧ OwAll G' H' L840 vs842 ((acc841 : (List (List (List Int)))).map (oL (oL oI))) ∧ (∀ b ∈ L840, H b = none) ∧ (∀ b ∈ L840, b ≠ D838) ∧ Same H H' ∧ cW (mapA (List.drop i1 (planes')) acc841 (fun x => noEr (F_copy_planes_c1  x))) K836 EE) ?_ ?_ ?_ ?_⟩
    · generalize g843 : upd H D838 _ = H844
      obtain ⟨e845, h846⟩ := gen_new n839 g843
      have fr847 := S0.free n839
      have S848 := S0.new n839 e845 h846 fr847
      exact ⟨_, [], [], [], Same.refl _, (S848.sub (all_cons (.head _) (all_app (L := []) all_nil all_nil))), h846, OwAll.nil, all_nil, all_nil, e845, hw⟩
    · intro i1 H849 _ hw
      obtain ⟨G852, acc854, vs855, L857, eG853, S850, h851, d856, nb858, nd859, eo860, hw⟩ := hw
      exact (SqL.of (S850.bM _ _ h833))
    · intro i1 x H861 hj hw
      obtain ⟨G864, acc866, vs867, L869, eG865, S862, h863, d868, nb870, nd871, eo872, hw⟩ := hw
      obtain ⟨x873, hx, r874⟩ := RpAll.get d834 hj
      obtain ⟨a875, vs876, rfl, h877, d878⟩ := rp_list r874
      obtain ⟨z879, hw⟩ := cW_mapA hx hw
      have hw := cW_noEr hw
      have hw : cW (F_copy_planes_c1  (x873)) _ (fun _ => False) := hw
      unfold F_copy_planes_c1 at hw
      refine ⟨rfl, ?_⟩
      refine tyes_go ?_
      obtain ⟨K882, hK883, hw⟩ := cW_push hw
      refine ⟨_, rfl, _, rfl, ⟨_, (SqL.of (S862.bM _ _ h877))⟩, fun D884 n885 => lc_list (K := K) (a := a875) (xs := vs876) (fun i2 H' => ∃ (G' : Hp) (acc887 : (List (List Int))) (vs888 : List V) (L886 : List Addr), Same G864 G' ∧ Sep [] H G G' H' (D884 :: (L886 ++ (D838 :: (L869 ++ [])))) ∧ H' D838 = some (.lst (vs867)) ∧ H' D884 = some (.lst vs888) ∧ OwAll G' H' L869 (vs867) ((acc866 : (List (List (List Int)))).map (oL (oL oI))) ∧ OwAll G' H' L886 vs888 ((acc887 : (List (List Int))).map (oL oI)) ∧ (∀ b ∈ L886, H861 b = none) ∧ (∀ b ∈ L886, b ≠ D884) ∧ Same H861 H' ∧ cW (mapA (List.drop i2 (x873)) acc887 (fun x => noEr (F_copy_planes_c2  x))) K882 (fun _ => False)) ?_ ?_ ?_ ?_⟩
      · generalize g889 : upd H861 D884 _ = H890
        obtain ⟨e891, h892⟩ := gen_new n885 g889
        have fr893 := S862.free n885
        have S894 := S862.new n885 e891 h892 fr893
        have h895 := (e891 _ _ h863)
        have w896 : OwAll G864 H890 L869 (vs867) ((acc866 : (List (List (List Int)))).map (oL (oL oI))) := (OwAll.mono (Same.refl _) (keeps_same e891) d868)
        exact ⟨_, [], [], [], Same.refl _, (S894.sub (all_cons (.head _) (all_app (L := []) all_nil (all_cons (.tail _ (.head _)) (all_app ((fun b hb => (.tail _ (.tail _ (List.mem_append_left _ hb)))) : ∀ b ∈ L869, b ∈ (D884 :: (D838 :: (L869 ++ [])))) all_nil))))), h895, h892, w896, OwAll.nil, all_nil, all_nil, e891, hw⟩
      · intro i2 H897 _ hw
        obtain ⟨G900, acc902, vs903, L905, eG901, S898, h909, h899, w910, d904, nb906, nd907, eo908, hw⟩ := hw
        exact (SqL.of (S898.bM _ _ h877))
      · intro i2 x H911 hj hw
        obtain ⟨G914, acc916, vs917, L919, eG915, S912, h923, h913, w924, d918, nb920, nd921, eo922, hw⟩ := hw
        obtain ⟨x925, hx, r926⟩ := RpAll.get d878 hj
        obtain ⟨a927, rfl, h928⟩ := rp_ints r926
        obtain ⟨z929, hw⟩ := cW_mapA hx hw
        have hw := cW_noEr hw
        have hw : cW (F_copy_planes_c2  (x925)) _ (fun _ => False) := hw
        unfold F_copy_planes_c2 at hw
        refine ⟨rfl, ?_⟩
        refine tyes_go ?_
        refine ⟨_, rfl, _, _, rfl, (SqL.of (S912.bM _ _ h928)), fun p931 n932 => ?_⟩
        generalize g933 : upd H911 p931 _ = H934
        obtain ⟨e935, h936⟩ := gen_new n932 g933
        have h937 : H934 p931 = some (.lst ((x925 : (List Int)).map V.int)) := h936
        have fr938 := S912.free n932
        have S939 := S912.new n932 e935 h937 fr938
        have w940 : OwAll G914 H934 L919 (vs917) ((acc916 : (List (List Int))).map (oL oI)) := (OwAll.mono (Same.refl _) (keeps_same e935) d918)
        have h941 := (e935 _ _ h913)
        refine ⟨_, h941, (app_len (OwAll.rpA w940 (encO_L encO_I) S939.sG) z929), ?_⟩
        generalize g942 : upd H934 D884 _ = H943
        obtain ⟨x944, h945⟩ := gen_mut g942
        have S946 := S939.mut1 x944 (.tail _ (.head _)) h945
        have hw := cW_ok hw
        have h947 := (x944 _ _ (e935 _ _ h923) (ne_of_none h863 n885))
        have w948 : OwAll G914 H943 L869 (vs867) ((acc866 : (List (List (List Int)))).map (oL (oL oI))) := (OwAll.mono (Same.refl _) (keeps_mut x944 ((there_ne (fun b_ hb_ => (S862.ow b_ (((fun b hb => (.tail _ (List.mem_append_left _ hb))) : ∀ b ∈ L869, b ∈ (D838 :: (L869 ++ []))) b_ hb_)).2.1) n885) : ∀ b ∈ L869, b ≠ D884)) (OwAll.mono (Same.refl _) (keeps_same e935) w924))
        exact ⟨_, (acc916 ++ [x925]), _, (L919 ++ (p931 :: ([] : List Addr))), eG915, (S946.sub (all_cons (.tail _ (.head _)) (all_app (all_app ((fun b hb => (.tail _ (.tail _ (List.mem_append_left _ hb)))) : ∀ b ∈ L919, b ∈ (p931 :: (D884 :: (L919 ++ (D838 :: (L869 ++ [])))))) (all_cons (.head _) all_nil)) (all_cons (.tail _ (.tail _ (List.mem_append_right _ (.head _)))) (all_app ((fun b hb => (.tail _ (.tail _ (List.mem_append_right _ (.tail _ (List.mem_append_left _ hb)))))) : ∀ b ∈ L869, b ∈ (p931 :: (D884 :: (L919 ++ (D838 :: (L869 ++ [])))))) all_nil))))), h947, h945, w948, (OwAll.mono (Same.refl _) (keeps_mut x944 ((all_app nd921 (all_cons (ne_of_none h913 n932).symm all_nil)) : ∀ b ∈ (L919 ++ (p931 :: ([] : List Addr))), b ≠ D884)) (OwAll.snocM w940 (Ow.ints h937) ((fun b hb => (nm_cons ((there_ne (fun b_ hb_ => (S912.ow b_ (((fun b hb => (.tail _ (List.mem_append_left _ hb))) : ∀ b ∈ L919, b ∈ (D884 :: (L919 ++ (D838 :: (L869 ++ []))))) b_ hb_)).2.1) n932) b hb) nm_nil)) : ∀ b ∈ L919, b ∉ (p931 :: ([] : List Addr))))), ((all_app nb920 (all_cons (none_of_same eo922 n932) all_nil)) : ∀ b ∈ (L919 ++ (p931 :: ([] : List Addr))), H861 b = none), ((all_app nd921 (all_cons (ne_of_none h913 n932).symm all_nil)) : ∀ b ∈ (L919 ++ (p931 :: ([] : List Addr))), b ≠ D884), (same_mut (Same.trans eo922 e935) x944 n885), hw⟩
      intro H949 hw
      obtain ⟨G952, acc954, vs955, L957, eG953, S950, h961, h951, w962, d956, nb958, nd959, eo960, hw⟩ := hw
      have hw := hK883 _ (cW_mapA0 (by rw [d878.len, List.length_map]) hw)
      have fr963 := S862.free n885
      refine ⟨_, h961, (app_len (OwAll.rpA w962 (encO_L (encO_L encO_I)) S950.sG) z879), ?_⟩
      generalize g964 : upd H949 D838 _ = H965
      obtain ⟨x966, h967⟩ := gen_mut g964
      have S968 := S950.mut1 x966 (.tail _ (List.mem_append_right _ (.head _))) h967
      have hw := cW_ok hw
      exact ⟨_, (acc866 ++ [acc954]), _, (L869 ++ (D884 :: L957)), (Same.trans eG865 eG953), (S968.sub (all_cons (.tail _ (List.mem_append_right _ (.head _))) (all_app (all_app ((fun b hb => (.tail _ (List.mem_append_right _ (.tail _ (List.mem_append_left _ hb))))) : ∀ b ∈ L869, b ∈ (D884 :: (L957 ++ (D838 :: (L869 ++ []))))) (all_cons (.head _) ((fun b hb => (.tail _ (List.mem_append_left _ hb))) : ∀ b ∈ L957, b ∈ (D884 :: (L957 ++ (D838 :: (L869 ++ []))))))) all_nil))), h967, (OwAll.mono (Same.refl _) (keeps_mut x966 ((all_app nd871 (all_cons (ne_of_none h863 n885).symm (new_ne2 nb958 (S862.ow _ (.head _)).2.1))) : ∀ b ∈ (L869 ++ (D884 :: L957)), b ≠ D838)) (OwAll.snocM w962 (Ow.list h951 d956 (nd959 : ∀ b ∈ L957, b ≠ D884)) ((fun b hb => (nm_cons ((there_ne (fun b_ hb_ => (S862.ow b_ (((fun b hb => (.tail _ (List.mem_append_left _ hb))) : ∀ b ∈ L869, b ∈ (D838 :: (L869 ++ []))) b_ hb_)).2.1) n885) b hb) ((nl_symm (new_nl nb958 (fun b_ hb_ => (S862.ow b_ (((fun b hb => (.tail _ (List.mem_append_left _ hb))) : ∀ b ∈ L869, b ∈ (D838 :: (L869 ++ []))) b_ hb_)).2.1))) b hb))) : ∀ b ∈ L869, b ∉ (D884 :: L957)))), ((all_app nb870 (all_cons (none_of_same eo872 n885) (fun b hb => none_of_same eo872 (nb958 b hb)))) : ∀ b ∈ (L869 ++ (D884 :: L957)), H b = none), ((all_app nd871 (all_cons (ne_of_none h863 n885).symm (new_ne2 nb958 (S862.ow _ (.head _)).2.1))) : ∀ b ∈ (L869 ++ (D884 :: L957)), b ≠ D838), (same_mut (Same.trans eo872 eo960) x966 n839), hw⟩
    intro H969 hw
    obtain ⟨G972, acc974, vs975, L977, eG973, S970, h971, d976, nb978, nd979, eo980, hw⟩ := hw
    have hw := hK837 _ (cW_mapA0 (by rw [d834.len, List.length_map]) hw)
    have fr981 := S0.free n839
    have hw := cW_ok hw
    exact hK0 _ hw _ _ _ _ _ fr981 ((fun b hb => S0.free (nb978 b hb)) : ∀ b ∈ L977, H b = none) (nd979 : ∀ b ∈ L977, b ≠ D838) S970.b0 S970.g0 S970.sG S970.gn (S970.ow _ (.head _)).1 ((fun b hb => (S970.ow b (((fun b hb => (.tail _ (List.mem_append_left _ hb))) : ∀ b ∈ L977, b ∈ (D838 :: (L977 ++ []))) b hb)).1) : ∀ b ∈ L977, G972 b = none) h971 d976

abbrev N_step_of : List Str := ["quantizer"]
theorem sc_step_of : FnScope N_step_of ["quantizer"] (defScope s_step_of) := ⟨rfl, rfl, rfl, by decide +kernel, rfl, by decide +kernel, by decide +kernel⟩
theorem ok_step_of (D : DefX K mg "step_of" s_step_of ["quantizer"] pats_step_of) (T : Txt w K mg AD)  : CalX P w K mg base 1 "step_of" (sp_step_of K AD) pats_step_of := by
  refine D.ok sc_step_of (fun vs H Q E h => ?_) (fun f cdv A_ outer s H vs Q E hr h => ?_)
  · obtain ⟨G, quantizer', rfl, _⟩ := h
    rfl
  · obtain ⟨G, quantizer', rfl, sG, hw⟩ := h
    refine ⟨_, (pss_cons (ps_if (pt_not (pt_chain op_le op_le pe_int (pv 0) (C8.pe_gc rfl T.g_GREATEST_QUANTIZER))) (pss_one (ps_raise rfl (takes_of rfl rfl rfl rfl) (pmk_own PySem.F.excBase_ValueError T.xx_OutOfRange T.xg_OutOfRange T.xk_OutOfRange (raises_own T.xb_OutOfRange T.xt_OutOfRange) rfl))) pss_nil)
      (pss_one (ps_ret (pe_op op_add (pe_op op_add pe_int (pv 0)) (pe_op op_fdivW (pe_op op_mul (pv 0) (pv 0)) pe_int))))), ?_⟩
    obtain ⟨KK, EE, hK0, hE, hw⟩ := cW_gen hw
    have S0 := Sep.startG sG
    unfold F_step_of at hw
    refine ⟨_, rfl, _, _, rfl, rfl, _, rfl, ?_⟩
    refine iteD (fun c982 => ?_) (fun c982 => ?_)
    · have hw := cW_pos c982 hw
      refine ⟨_, _, rfl, rfl, _, rfl, ?_⟩
      refine iteN (fun c983 => ?_) (fun c983 => ?_)
      · have hw := cW_neg c983 hw
        exact hE 2 (cW_er hw)
      · have hw := cW_pos c983 hw
        obtain ⟨g984, hw⟩ := cW_grd hw
        refine ⟨_, rfl, _, _, rfl, rfl, _, rfl, _, rfl, _, _, rfl, rfl, g984, _, _, rfl, rfl, (divW_lit (by decide) (by decide)), _, _, rfl, rfl, ?_⟩
        have hw := cW_ok hw
        exact hK0 _ hw
    · have hw := cW_neg c982 hw
      refine ⟨_, rfl, ?_⟩
      refine iteT ?_
      exact hE 2 (cW_er hw)

abbrev N_edge_limit : List Str := ["first", "second", "edge"]
theorem sc_edge_limit : FnScope N_edge_limit ["first", "second", "edge"] (defScope s_edge_limit) := ⟨rfl, rfl, rfl, by decide +kernel, rfl, by decide +kernel, by decide +kernel⟩
theorem ok_edge_limit (D : DefX K mg "edge_limit" s_edge_limit ["first", "second", "edge"] pats_edge_limit) (T : Txt w K mg AD) (c_step_of : CalX P w K mg base 1 "step_of" (sp_step_of K AD) pats_step_of) : CalX P w K mg base 2 "edge_limit" (sp_edge_limit K AD) pats_edge_limit := by
  refine D.ok sc_edge_limit (fun vs H Q E h => ?_) (fun f cdv A_ outer s H vs Q E hr h => ?_)
  · obtain ⟨G, first', second', edge', rfl, _⟩ := h
    rfl
  · obtain ⟨G, first', second', edge', rfl, sG, hw⟩ := h
    refine ⟨_, (pss_one (ps_ret (pe_op op_shr (pe_op op_mul (vx_callX c_step_of pat_step_of_0 (.head _) hr (by decide) (takes_of rfl rfl rfl rfl) rfl (pa_cons (pe_op op_shr (pe_op op_add (pv 0) (pv 1)) pe_int) pa_nil) pk_nil) (pe_op op_add pe_int (pv 2))) pe_int))), ?_⟩
    obtain ⟨KK, EE, hK0, hE, hw⟩ := cW_gen hw
    have S0 := Sep.startG sG
    unfold F_edge_limit at hw
    refine ⟨_, rfl, _, rfl, _, _, rfl, rfl, _, _, rfl, rfl, (show (0 : Int) ≤ 1 by decide), rfl, rfl, G, _, rfl, S0.sG, cW_call hw (fun v985 hw => ?_) (fun e he => hE e he)⟩
    obtain ⟨g986, hw⟩ := cW_grd hw
    refine ⟨_, rfl, _, _, rfl, rfl, _, _, rfl, rfl, g986, _, _, rfl, rfl, (show (0 : Int) ≤ 4 by decide), ?_⟩
    have hw := cW_ok hw
    exact hK0 _ hw

abbrev N__limit_between : List Str := ["one", "other", "edge", "first", "first_skipped", "second", "second_skipped"]
theorem sc__limit_between : FnScope N__limit_between ["one", "other", "edge"] (defScope s__limit_between) := ⟨rfl, rfl, rfl, by decide +kernel, rfl, by decide +kernel, by decide +kernel⟩
theorem ok__limit_between (D : DefX K mg "_limit_between" s__limit_between ["one", "other", "edge"] pats__limit_between) (T : Txt w K mg AD) (c_edge_limit : CalX P w K mg base 2 "edge_limit" (sp_edge_limit K AD) pats_edge_limit) : CalX P w K mg base 3 "_limit_between" (sp__limit_between K AD) pats__limit_between := by
  refine D.ok sc__limit_between (fun vs H Q E h => ?_) (fun f cdv A_ outer s H vs Q E hr h => ?_)
  · obtain ⟨G, v_one, one', v_other, other', edge', rfl, _⟩ := h
    rfl
  · obtain ⟨G, v_one, one', v_other, other', edge', rfl, sG, r_one, r_other, hw⟩ := h
    refine ⟨_, (pss_cons (ps_asg (pv 0) (pg_tupK (K := K) (n := 2) (pgs_cons (pg_name (i := 3) sc__limit_between.nd rfl (Or.inl rfl)) (pgs_cons (pg_name (i := 4) sc__limit_between.nd rfl (Or.inl rfl)) pgs_nil))))
      (pss_cons (ps_asg (pv 1) (pg_tupK (K := K) (n := 2) (pgs_cons (pg_name (i := 5) sc__limit_between.nd rfl (Or.inl rfl)) (pgs_cons (pg_name (i := 6) sc__limit_between.nd rfl (Or.inl rfl)) pgs_nil))))
      (pss_cons (ps_if (PW.pt (pw_and (pt_val (pv 4)) (pw_and1 (pt_val (pv 6))))) (pss_one (ps_ret pe_int)) pss_nil)
      (pss_one (ps_ret (vx_callX c_edge_limit pat_edge_limit_0 (.head _) hr (by decide) (takes_of rfl rfl rfl rfl) rfl (pa_cons (pv 3) (pa_cons (pv 5) (pa_cons (pv 2) pa_nil))) pk_nil)))))), ?_⟩
    obtain ⟨KK, EE, hK0, hE, hw⟩ := cW_gen hw
    have S0 := Sep.startG sG
    unfold F__limit_between at hw
    obtain ⟨a987, v989, v990, rfl, h988, r991, r992⟩ := rp_tup2 r_one
    obtain rfl := rp_int r991
    obtain rfl := rp_bool r992
    obtain ⟨a993, v995, v996, rfl, h994, r997, r998⟩ := rp_tup2 r_other
    obtain rfl := rp_int r997
    obtain rfl := rp_bool r998
    refine ⟨_, rfl, _, _, rfl, (SqT.of (S0.bM _ _ h988)), rfl, _, _, rfl, _, _, rfl, rfl, _, rfl, _, _, rfl, (SqT.of (S0.bM _ _ h994)), rfl, _, _, rfl, _, _, rfl, rfl, _, rfl, _, rfl, ?_⟩
    refine iteB (fun c999 => ?_) (fun c999 => ?_)
    · have hw := cW_pos c999 hw
      refine ⟨_, rfl, _, rfl, ?_⟩
      refine iteB (fun c1000 => ?_) (fun c1000 => ?_)
      · have hw := cW_pos c1000 hw
        have hw := cW_ok hw
        exact hK0 _ hw _ S0.b0
      · have hw := cW_negB c1000 hw
        refine ⟨_, rfl, _, rfl, _, rfl, rfl, rfl, G, _, _, _, rfl, S0.sG, cW_call hw (fun v1001 hw => ?_) (fun e he => hE e he _ S0.b0)⟩
        have hw := cW_ok hw
        exact hK0 _ hw _ S0.b0
    · have hw := cW_negB c999 hw
      refine iteF ?_
      refine ⟨_, rfl, _, rfl, _, rfl, rfl, rfl, G, _, _, _, rfl, S0.sG, cW_call hw (fun v1002 hw => ?_) (fun e he => hE e he _ S0.b0)⟩
      have hw := cW_ok hw
      exact hK0 _ hw _ S0.b0

abbrev N__limits : List Str := ["blocks", "edge", "row", "one", "other"]
theorem sc__limits : FnScope N__limits ["blocks", "edge"] (defScope s__limits) := ⟨rfl, rfl, rfl, by decide +kernel, rfl, by decide +kernel, by decide +kernel⟩
theorem ok__limits (D : DefX K mg "_limits" s__limits ["blocks", "edge"] pats__limits) (T : Txt w K mg AD) (c__limit_between : CalX P w K mg base 3 "_limit_between" (sp__limit_between K AD) pats__limit_between) : CalX P w K mg base 4 "_limits" (sp__limits K AD) pats__limits := by
  refine D.ok sc__limits (fun vs H Q E h => ?_) (fun f cdv A_ outer s H vs Q E hr h => ?_)
  · obtain ⟨G, v_blocks, blocks', edge', rfl, _⟩ := h
    rfl
  · obtain ⟨G, v_blocks, blocks', edge', rfl, sG, r_blocks, hw⟩ := h
    refine ⟨_, (pss_one (ps_ret (pe_lc (own := [("row", 2)]) (g := gName 2) (by rfl) sc__limits.nd (pi_listK (K := K) (pv 0)) (blkOk_by (own := [("row", 2)]) (N := N__limits) (sc := defScope s__limits) (by decide +kernel)) (fun _ _ _ _ _ => (pg_name (i := 2) sc__limits.nd rfl (Or.inl rfl))) (fun _ _ _ _ _ => pts_nil) (fun _ _ _ _ _ => (pe_lc (own := [("one", 3), ("other", 4)]) (g := gTup K 2 (gCons (gName 3) (gCons (gName 4) gNil))) (by rfl) sc__limits.nd (pi_zipK (K := K) rfl T.b_zip (pa_cons (pv 2) (pa_cons (pe_slice (sl_listK (K := K)) (pv 2) (po_some pe_int) po_none) pa_nil))) (blk_relabel (blkOk_by (own := [("one", 3), ("other", 4)]) (N := N__limits) (by decide +kernel))) (fun _ _ _ _ _ => (pg_tupK (K := K) (n := 2) (pgs_cons (pg_name (i := 3) sc__limits.nd rfl (Or.inl rfl)) (pgs_cons (pg_name (i := 4) sc__limits.nd rfl (Or.inl rfl)) pgs_nil)))) (fun _ _ _ _ _ => pts_nil) (fun _ _ _ _ _ => (vx_callX c__limit_between pat__limit_between_0 (.head _) hr (by decide) takes0 rfl (pa_cons (pv 3) (pa_cons (pv 4) (pa_cons (pv 1) pa_nil))) pk_nil))))))), ?_⟩
    obtain ⟨KK, EE, hK0, hE, hw⟩ := cW_gen hw
    have S0 := Sep.startG sG
    unfold F__limits at hw
    obtain ⟨a1003, vs1004, rfl, h1005, d1006⟩ := rp_list r_blocks
    obtain ⟨K1009, hK1010, hw⟩ := cW_push hw
    refine ⟨_, rfl, _, rfl, ⟨_, (SqL.of (S0.bM _ _ h1005))⟩, fun D1011 n1012 => lc_list (K := K) (a := a1003) (xs := vs1004) (fun i1 H' => ∃ (G' : Hp) (acc1014 : (List (List Int))) (vs1015 : List V), Same G G' ∧ Sep [] H G G' H' [D1011] ∧ H' D1011 = some (.lst vs1015) ∧ RpAll G' vs1015 ((acc1014 : (List (List Int))).map (encL PyData.int)) ∧ Same H H' ∧ cW (mapA (List.drop i1 (blocks')) acc1014 (fun x => noEr (F__limits_c1 (edge') x))) K1009 EE) ?_ ?_ ?_ ?_⟩
    · generalize g1016 : upd H D1011 _ = H1017
      obtain ⟨e1018, h1019⟩ := gen_new n1012 g1016
      have fr1020 := S0.free n1012
      have S1021 := S0.new n1012 e1018 h1019 fr1020
      exact ⟨_, [], [], Same.refl _, S1021, h1019, RpAll.nil, e1018, hw⟩
    · intro i1 H1022 _ hw
      obtain ⟨G1025, acc1027, vs1028, eG1026, S1023, h1024, d1029, eo1033, hw⟩ := hw
      exact (SqL.of (S1023.bM _ _ h1005))
    · intro i1 x H1034 hj hw
      obtain ⟨G1037, acc1039, vs1040, eG1038, S1035, h1036, d1041, eo1045, hw⟩ := hw
      obtain ⟨x1046, hx, r1047⟩ := RpAll.get d1006 hj
      obtain ⟨a1048, vs1049, rfl, h1050, d1051⟩ := rp_list r1047
      obtain ⟨z1052, hw⟩ := cW_mapA hx hw
      have hw := cW_noEr hw
      have hw : cW (F__limits_c1 (edge') (x1046)) _ (fun _ => False) := hw
      unfold F__limits_c1 at hw
      refine ⟨rfl, ?_⟩
      refine tyes_go ?_
      refine ⟨_, rfl, _, rfl, _, rfl, _, _, rfl, (SqL.of (S1035.bM _ _ h1050)), fun p1054 n1055 => ?_⟩
      generalize g1056 : upd H1034 p1054 _ = H1057
      obtain ⟨e1058, h1059⟩ := gen_new n1055 g1056
      have h1060 : H1057 p1054 = some (.lst (cutV (vs1049) (some (1)) none)) := h1059
      have fr1062 := S1035.free n1055
      have S1063 := S1035.new n1055 e1058 h1060 fr1062
      obtain ⟨G1064, eG1065, hg1066, S1067⟩ := Sep.freeze (O' := [D1011]) S1063 (.head _) h1060 fr1062 ((all_cons ⟨(.tail _ (.head _)), (ne_of_none h1036 n1055)⟩ all_nil))
      have d1061 : RpAll (hideL [] H) (cutV (vs1049) (some (1)) none) ((cutL (x1046) (some (1)) none : (List (Int × Bool))).map (encT2 PyData.int PyData.bool)) := cut_all (some (1)) none d1051
      obtain ⟨K1070, hK1071, hw⟩ := cW_push hw
      refine ⟨_, _, _, _, rfl, .inl ⟨(SqL.of (S1067.bM _ _ h1050)), (SqL.of (S1067.sG _ _ hg1066)), fun D1072 n1073 => lc_zipM (K := K) (a := a1048) (b := p1054) (xs := vs1049) (ys := cutV (vs1049) (some (1)) none) (min ((x1046 : (List (Int × Bool))).length) ((cutL (x1046) (some (1)) none : (List (Int × Bool))).length)) (zipM_n (by rw [d1051.len, List.length_map]) (by rw [d1061.len, List.length_map])) (fun i2 H' => ∃ (G' : Hp) (acc1075 : (List Int)), Same G1064 G' ∧ Sep [] H G G' H' [D1072, D1011] ∧ H' D1011 = some (.lst (vs1040)) ∧ H' D1072 = some (.lst ((acc1075 : (List Int)).map V.int)) ∧ Same H1057 H' ∧ cW (mapA (List.drop i2 (List.zip (x1046) (cutL (x1046) (some (1)) none))) acc1075 (fun x => noEr (F__limits_c2 (edge') x))) K1070 (fun _ => False)) ?_ ?_ ?_ ?_⟩⟩
      · generalize g1077 : upd H1057 D1072 _ = H1078
        obtain ⟨e1079, h1080⟩ := gen_new n1073 g1077
        have fr1081 := S1067.free n1073
        have S1082 := S1067.new n1073 e1079 h1080 fr1081
        have h1083 := (e1079 _ _ (e1058 _ _ h1036))
        exact ⟨_, [], Same.refl _, S1082, h1083, h1080, e1079, hw⟩
      · intro i2 H1084 _ hw
        obtain ⟨G1087, acc1089, eG1088, S1085, h1096, h1086, eo1095, hw⟩ := hw
        exact ⟨(SqL.of (S1085.bM _ _ h1050)), (SqL.of (S1085.sG _ _ (eG1088 _ _ hg1066)))⟩
      · intro i2 x y T1099 H1097 hj hj2 n1098 hw
        obtain ⟨G1102, acc1104, eG1103, S1100, h1111, h1101, eo1110, hw⟩ := hw
        obtain ⟨x1112, hx1113, r1114⟩ := RpAll.get d1051 hj
        obtain ⟨a1115, v1117, v1118, rfl, h1116, r1119, r1120⟩ := rp_tup2 r1114
        obtain rfl := rp_int r1119
        obtain rfl := rp_bool r1120
        obtain ⟨x1121, hx1122, r1123⟩ := RpAll.get d1061 hj2
        obtain ⟨a1124, v1126, v1127, rfl, h1125, r1128, r1129⟩ := rp_tup2 r1123
        obtain rfl := rp_int r1128
        obtain rfl := rp_bool r1129
        generalize g1130 : upd H1097 T1099 _ = H1131
        obtain ⟨e1132, h1133⟩ := gen_new n1098 g1130
        have h1134 : H1131 T1099 = some (.tup [V.ref a1115, V.ref a1124]) := h1133
        have fr1135 := S1100.free n1098
        obtain ⟨G1137, eG1138, hg1139, S1136⟩ := S1100.grow n1098 e1132 h1134 fr1135
        obtain ⟨z1140, hw⟩ := cW_mapA (zip_get hx1113 hx1122) hw
        have hw := cW_noEr hw
        have hw : cW (F__limits_c2 (edge') ((x1112, x1121))) _ (fun _ => False) := hw
        unfold F__limits_c2 at hw
        refine ⟨_, _, rfl, (SqT.of (S1136.sG _ _ hg1139)), rfl, _, _, rfl, _, _, rfl, rfl, rfl, ?_⟩
        refine tyes_go ?_
        refine ⟨_, rfl, _, rfl, _, rfl, rfl, rfl, G1137, _, _, _, _, _, rfl, S1136.sG, (Rp.hide_nil (rp_mk2 (S1136.bM _ _ h1116) (.int _) (.bl _))), (Rp.hide_nil (rp_mk2 (S1136.bM _ _ h1125) (.int _) (.bl _))), cW_call hw (fun v1142 hw H1143 e1144 => ?_) (fun e he => he.elim)⟩
        have S1145 := S1136.same e1144
        have h1146 := (e1144 _ _ (e1132 _ _ h1101))
        refine ⟨_, h1146, (app_lenM z1140), ?_⟩
        generalize g1147 : upd H1143 D1072 _ = H1148
        obtain ⟨x1149, h1150⟩ := gen_mut g1147
        have S1151 := S1145.mut1 x1149 (.head _) h1150
        have hw := cW_ok hw
        have h1152 := (x1149 _ _ (e1144 _ _ (e1132 _ _ h1111)) (ne_of_none (e1058 _ _ h1036) n1073))
        exact ⟨_, (acc1104 ++ [v1142]), (Same.trans eG1103 eG1138), S1151, h1152, (snoc_map h1150), (same_mut (Same.trans (Same.trans eo1110 e1132) e1144) x1149 n1073), hw⟩
      intro H1153 hw
      obtain ⟨G1156, acc1158, eG1157, S1154, h1165, h1155, eo1164, hw⟩ := hw
      have hw := hK1071 _ (cW_mapA0 zipM_len hw)
      have fr1166 := S1067.free n1073
      obtain ⟨G1167, eG1168, hg1169, S1170⟩ := Sep.freeze (O' := [D1011]) S1154 (.head _) h1155 fr1166 ((all_cons ⟨(.tail _ (.head _)), (ne_of_none (e1058 _ _ h1036) n1073)⟩ all_nil))
      refine ⟨_, h1165, (app_len (RpAll.mono eG1168 (RpAll.mono eG1157 (RpAll.mono eG1065 d1041))) z1052), ?_⟩
      generalize g1171 : upd H1153 D1011 _ = H1172
      obtain ⟨x1173, h1174⟩ := gen_mut g1171
      have S1175 := S1170.mut1 x1173 (.head _) h1174
      have hw := cW_ok hw
      exact ⟨_, (acc1039 ++ [acc1158]), _, (Same.trans (Same.trans (Same.trans eG1038 eG1065) eG1157) eG1168), S1175, h1174, (app_map (RpAll.mono eG1168 (RpAll.mono eG1157 (RpAll.mono eG1065 d1041))) (RpAll.one (rp_mk_ints hg1169))), (same_mut (Same.trans (Same.trans eo1045 e1058) eo1164) x1173 n1012), hw⟩
    intro H1176 hw
    obtain ⟨G1179, acc1181, vs1182, eG1180, S1177, h1178, d1183, eo1187, hw⟩ := hw
    have hw := hK1010 _ (cW_mapA0 (by rw [d1006.len, List.length_map]) hw)
    have fr1188 := S0.free n1012
    obtain ⟨G1189, eG1190, hg1191, S1192⟩ := Sep.freeze (O' := []) S1177 (.head _) h1178 fr1188 (all_nil)
    have hw := cW_ok hw
    exact hK0 _ hw _ _ _ S1192.b0 S1192.g0 S1192.sG S1192.gn (rp_mk_list hg1191 (RpAll.mono eG1190 d1183))

abbrev N_transposed : List Str := ["rows", "column"]
theorem sc_transposed : FnScope N_transposed ["rows"] (defScope s_transposed) := ⟨rfl, rfl, rfl, by decide +kernel, rfl, by decide +kernel, by decide +kernel⟩
theorem ok_transposed (D : DefX K mg "transposed" s_transposed ["rows"] pats_transposed) (T : Txt w K mg AD)  : CalX P w K mg base 1 "transposed" (sp_transposed K AD) pats_transposed := by
  refine D.ok sc_transposed (fun vs H Q E h => ?_) (fun f cdv A_ outer s H vs Q E hr h => ?_)
  · obtain ⟨G, v_rows, rows', rfl, _⟩ := h
    rfl
  · obtain ⟨G, v_rows, rows', rfl, sG, r_rows, hw⟩ := h
    refine ⟨_, (pss_one (ps_ret (pe_lc (own := [("column", 1)]) (g := gName 1) (by rfl) sc_transposed.nd (Vz.pi_zipN (K := K) rfl T.b_zip (pv 0)) (blkOk_by (own := [("column", 1)]) (N := N_transposed) (sc := defScope s_transposed) (by decide +kernel)) (fun _ _ _ _ _ => (pg_name (i := 1) sc_transposed.nd rfl (Or.inl rfl))) (fun _ _ _ _ _ => pts_nil) (fun _ _ _ _ _ => (pe_callTy (call_listTK (K := K)) (by rfl) T.b_list (by decide +kernel) (pa_cons (pv 1) pa_nil)))))), ?_⟩
    obtain ⟨KK, EE, hK0, hE, hw⟩ := cW_gen hw
    have S0 := Sep.startG sG
    unfold F_transposed at hw
    obtain ⟨a1193, vs1194, rfl, h1195, d1196⟩ := rp_list r_rows
    obtain ⟨g1197, hw⟩ := cW_grd hw
    obtain ⟨ls1198, els1199, rws1200⟩ := rows_rp (K := K) S0.bM d1196
    obtain ⟨K1202, hK1203, hw⟩ := cW_push hw
    refine ⟨_, rfl, _, ls1198, rfl, (SqL.cast (SqL.of (S0.bM _ _ h1195)) els1199), (by rw [rws1200.1]; exact g1197), rws1200.all, fun D1204 n1205 => lc_zipN (K := K) (ls := ls1198) (xss := rows') (ne_of_len g1197) (fun i1 H' => ∃ (G' : Hp) (acc1207 : (List (List Int))) (vs1208 : List V) (L1206 : List Addr), Same G G' ∧ Sep [] H G G' H' (D1204 :: (L1206 ++ [])) ∧ H' D1204 = some (.lst vs1208) ∧ OwAll G' H' L1206 vs1208 ((acc1207 : (List (List Int))).map (oL oI)) ∧ (∀ b ∈ L1206, H b = none) ∧ (∀ b ∈ L1206, b ≠ D1204) ∧ Same H H' ∧ cW (mapA (List.drop i1 (zipRows (rows'))) acc1207 (fun x => noEr (F_transposed_c1  x))) K1202 EE) ?_ ?_ ?_ ?_⟩
    · generalize g1209 : upd H D1204 _ = H1210
      obtain ⟨e1211, h1212⟩ := gen_new n1205 g1209
      have fr1213 := S0.free n1205
      have S1214 := S0.new n1205 e1211 h1212 fr1213
      exact ⟨_, [], [], [], Same.refl _, (S1214.sub (all_cons (.head _) (all_app (L := []) all_nil all_nil))), h1212, OwAll.nil, all_nil, all_nil, e1211, hw⟩
    · intro i1 H1215 _ hw
      obtain ⟨G1218, acc1220, vs1221, L1223, eG1219, S1216, h1217, d1222, nb1224, nd1225, eo1226, hw⟩ := hw
      exact RowsAt.again els1199 (rows_rp (K := K) S1216.bM d1196)
    · intro i1 T_ H1227 hi n1228 hw
      obtain ⟨G1231, acc1233, vs1234, L1236, eG1232, S1229, h1230, d1235, nb1237, nd1238, eo1239, hw⟩ := hw
      generalize g1240 : upd H1227 T_ _ = H1241
      obtain ⟨e1242, h1243⟩ := gen_new n1228 g1240
      have h1244 : H1241 T_ = some (.tup ((colOf (rows') i1).map V.int)) := h1243
      have fr1245 := S1229.free n1228
      obtain ⟨G1247, eG1248, hg1249, S1246⟩ := S1229.grow n1228 e1242 h1244 fr1245
      obtain ⟨z1250, hw⟩ := cW_mapA (zipRows_get hi) hw
      have hw := cW_noEr hw
      have hw : cW (F_transposed_c1  ((colOf (rows') i1))) _ (fun _ => False) := hw
      unfold F_transposed_c1 at hw
      refine ⟨rfl, ?_⟩
      refine tyes_go ?_
      refine ⟨_, rfl, _, _, rfl, (SqT.of (S1246.sG _ _ hg1249)), fun p1252 n1253 => ?_⟩
      generalize g1254 : upd H1241 p1252 _ = H1255
      obtain ⟨e1256, h1257⟩ := gen_new n1253 g1254
      have h1258 : H1255 p1252 = some (.lst (((colOf (rows') i1) : (List Int)).map V.int)) := h1257
      have fr1259 := S1246.free n1253
      have S1260 := S1246.new n1253 e1256 h1258 fr1259
      have w1261 : OwAll G1247 H1255 L1236 (vs1234) ((acc1233 : (List (List Int))).map (oL oI)) := (OwAll.mono eG1248 keeps_refl (OwAll.mono (Same.refl _) (keeps_same e1256) (OwAll.mono (Same.refl _) (keeps_same e1242) d1235)))
      have h1262 := (e1256 _ _ (e1242 _ _ h1230))
      refine ⟨_, h1262, (app_len (OwAll.rpA w1261 (encO_L encO_I) S1260.sG) z1250), ?_⟩
      generalize g1263 : upd H1255 D1204 _ = H1264
      obtain ⟨x1265, h1266⟩ := gen_mut g1263
      have S1267 := S1260.mut1 x1265 (.tail _ (.head _)) h1266
      have hw := cW_ok hw
      exact ⟨_, (acc1233 ++ [(colOf (rows') i1)]), _, (L1236 ++ (p1252 :: ([] : List Addr))), (Same.trans eG1232 eG1248), (S1267.sub (all_cons (.tail _ (.head _)) (all_app (all_app ((fun b hb => (.tail _ (.tail _ (List.mem_append_left _ hb)))) : ∀ b ∈ L1236, b ∈ (p1252 :: (D1204 :: (L1236 ++ [])))) (all_cons (.head _) all_nil)) all_nil))), h1266, (OwAll.mono (Same.refl _) (keeps_mut x1265 ((all_app nd1238 (all_cons (ne_of_none (e1242 _ _ h1230) n1253).symm all_nil)) : ∀ b ∈ (L1236 ++ (p1252 :: ([] : List Addr))), b ≠ D1204)) (OwAll.snocM w1261 (Ow.ints h1258) ((fun b hb => (nm_cons ((there_ne (fun b_ hb_ => (S1246.ow b_ (((fun b hb => (.tail _ (List.mem_append_left _ hb))) : ∀ b ∈ L1236, b ∈ (D1204 :: (L1236 ++ []))) b_ hb_)).2.1) n1253) b hb) nm_nil)) : ∀ b ∈ L1236, b ∉ (p1252 :: ([] : List Addr))))), ((all_app nb1237 (all_cons (none_of_same (Same.trans eo1239 e1242) n1253) all_nil)) : ∀ b ∈ (L1236 ++ (p1252 :: ([] : List Addr))), H b = none), ((all_app nd1238 (all_cons (ne_of_none (e1242 _ _ h1230) n1253).symm all_nil)) : ∀ b ∈ (L1236 ++ (p1252 :: ([] : List Addr))), b ≠ D1204), (same_mut (Same.trans (Same.trans eo1239 e1242) e1256) x1265 n1205), hw⟩
    intro H1268 hw
    obtain ⟨G1271, acc1273, vs1274, L1276, eG1272, S1269, h1270, d1275, nb1277, nd1278, eo1279, hw⟩ := hw
    have hw := hK1203 _ (cW_mapA0 (zipRows_len _).symm hw)
    have fr1280 := S0.free n1205
    have hw := cW_ok hw
    exact hK0 _ hw _ _ _ _ _ fr1280 ((fun b hb => S0.free (nb1277 b hb)) : ∀ b ∈ L1276, H b = none) (nd1278 : ∀ b ∈ L1276, b ≠ D1204) S1269.b0 S1269.g0 S1269.sG S1269.gn (S1269.ow _ (.head _)).1 ((fun b hb => (S1269.ow b (((fun b hb => (.tail _ (List.mem_append_left _ hb))) : ∀ b ∈ L1276, b ∈ (D1204 :: (L1276 ++ []))) b hb)).1) : ∀ b ∈ L1276, G1271 b = none) h1270 d1275

abbrev N_transposed_v_b : List Str := ["rows", "column"]
theorem sc_transposed_v_b : FnScope N_transposed_v_b ["rows"] (defScope s_transposed_v_b) := ⟨rfl, rfl, rfl, by decide +kernel, rfl, by decide +kernel, by decide +kernel⟩
theorem ok_transposed_v_b (D : DefX K mg "transposed" s_transposed_v_b ["rows"] pats_transposed_v_b) (T : Txt w K mg AD)  : CalX P w K mg base 1 "transposed" (sp_transposed_v_b K AD) pats_transposed_v_b := by
  refine D.ok sc_transposed_v_b (fun vs H Q E h => ?_) (fun f cdv A_ outer s H vs Q E hr h => ?_)
  · obtain ⟨G, v_rows, rows', rfl, _⟩ := h
    rfl
  · obtain ⟨G, v_rows, rows', rfl, sG, r_rows, hw⟩ := h
    refine ⟨_, (pss_one (ps_ret (pe_lc (own := [("column", 1)]) (g := gName 1) (by rfl) sc_transposed_v_b.nd (Vz.pi_zipN (K := K) rfl T.b_zip (pv 0)) (blkOk_by (own := [("column", 1)]) (N := N_transposed_v_b) (sc := defScope s_transposed_v_b) (by decide +kernel)) (fun _ _ _ _ _ => (pg_name (i := 1) sc_transposed_v_b.nd rfl (Or.inl rfl))) (fun _ _ _ _ _ => pts_nil) (fun _ _ _ _ _ => (pe_callTy (call_listTK (K := K)) (by rfl) T.b_list (by decide +kernel) (pa_cons (pv 1) pa_nil)))))), ?_⟩
    obtain ⟨KK, EE, hK0, hE, hw⟩ := cW_gen hw
    have S0 := Sep.startG sG
    unfold F_transposed_v_b at hw
    obtain ⟨a1281, vs1282, rfl, h1283, d1284⟩ := rp_list r_rows
    obtain ⟨g1285, hw⟩ := cW_grd hw
    obtain ⟨ls1286, vss1287, els1288, rg1289, rl1290, rd1291⟩ := rows_rpV (f := (encT2 PyData.int PyData.bool)) d1284
    obtain ⟨K1293, hK1294, hw⟩ := cW_push hw
    refine ⟨_, rfl, _, ls1286, rfl, (SqL.cast (SqL.of (S0.sG _ _ h1283)) els1288), (by rw [rg1289.1, rl1290]; exact g1285), (RowsG.v S0.sG rg1289).all, fun D1295 n1296 => lc_zipV (K := K) (ls := ls1286) (vss := vss1287) (ne_of_len (by rw [rl1290]; exact g1285)) (fun i1 H' => ∃ (G' : Hp) (acc1298 : (List (List (Int × Bool)))) (vs1299 : List V), Same G G' ∧ Sep [] H G G' H' [D1295] ∧ H' D1295 = some (.lst vs1299) ∧ RpAll G' vs1299 ((acc1298 : (List (List (Int × Bool)))).map (encL (encT2 PyData.int PyData.bool))) ∧ Same H H' ∧ cW (mapA (List.drop i1 (zipG (default : (Int × Bool)) (rows'))) acc1298 (fun x => noEr (F_transposed_v_b_c1  x))) K1293 EE) ?_ ?_ ?_ ?_⟩
    · generalize g1300 : upd H D1295 _ = H1301
      obtain ⟨e1302, h1303⟩ := gen_new n1296 g1300
      have fr1304 := S0.free n1296
      have S1305 := S0.new n1296 e1302 h1303 fr1304
      exact ⟨_, [], [], Same.refl _, S1305, h1303, RpAll.nil, e1302, hw⟩
    · intro i1 H1306 _ hw
      obtain ⟨G1309, acc1311, vs1312, eG1310, S1307, h1308, d1313, eo1317, hw⟩ := hw
      exact RowsG.v S1307.sG (RowsG.mono eG1310 rg1289)
    · intro i1 T_ H1318 hi n1319 hw
      obtain ⟨G1322, acc1324, vs1325, eG1323, S1320, h1321, d1326, eo1330, hw⟩ := hw
      generalize g1331 : upd H1318 T_ _ = H1332
      obtain ⟨e1333, h1334⟩ := gen_new n1319 g1331
      have h1335 : H1332 T_ = some (.tup (colG V.non vss1287 i1)) := h1334
      have fr1337 := S1320.free n1319
      obtain ⟨G1339, eG1340, hg1341, S1338⟩ := S1320.grow n1319 e1333 h1335 fr1337
      have d1336 : RpAll G (colG V.non vss1287 i1) ((colG (default : (Int × Bool)) (rows') i1).map (encT2 PyData.int PyData.bool)) := colV_at rl1290 rd1291 hi
      obtain ⟨z1342, hw⟩ := cW_mapA (zipG_get (by rw [← minV rl1290 rd1291]; exact hi)) hw
      have hw := cW_noEr hw
      have hw : cW (F_transposed_v_b_c1  ((colG (default : (Int × Bool)) (rows') i1))) _ (fun _ => False) := hw
      unfold F_transposed_v_b_c1 at hw
      refine ⟨rfl, ?_⟩
      refine tyes_go ?_
      refine ⟨_, rfl, _, _, rfl, (SqT.of (S1338.sG _ _ hg1341)), fun p1344 n1345 => ?_⟩
      generalize g1346 : upd H1332 p1344 _ = H1347
      obtain ⟨e1348, h1349⟩ := gen_new n1345 g1346
      have h1350 : H1347 p1344 = some (.lst (colG V.non vss1287 i1)) := h1349
      have fr1351 := S1338.free n1345
      have S1352 := S1338.new n1345 e1348 h1350 fr1351
      have d1353 : RpAll G1339 (colG V.non vss1287 i1) (((colG (default : (Int × Bool)) (rows') i1) : (List (Int × Bool))).map (encT2 PyData.int PyData.bool)) := (RpAll.mono eG1340 (RpAll.mono eG1323 d1336))
      obtain ⟨G1354, eG1355, hg1356, S1357⟩ := Sep.freeze (O' := [D1295]) S1352 (.head _) h1350 fr1351 ((all_cons ⟨(.tail _ (.head _)), (ne_of_none (e1333 _ _ h1321) n1345)⟩ all_nil))
      have h1358 := (e1348 _ _ (e1333 _ _ h1321))
      refine ⟨_, h1358, (app_len (RpAll.mono eG1355 (RpAll.mono eG1340 d1326)) z1342), ?_⟩
      generalize g1359 : upd H1347 D1295 _ = H1360
      obtain ⟨x1361, h1362⟩ := gen_mut g1359
      have S1363 := S1357.mut1 x1361 (.head _) h1362
      have hw := cW_ok hw
      exact ⟨_, (acc1324 ++ [(colG (default : (Int × Bool)) (rows') i1)]), _, (Same.trans (Same.trans eG1323 eG1340) eG1355), S1363, h1362, (app_map (RpAll.mono eG1355 (RpAll.mono eG1340 d1326)) (RpAll.one (rp_mk_list hg1356 (RpAll.mono eG1355 d1353)))), (same_mut (Same.trans (Same.trans eo1330 e1333) e1348) x1361 n1296), hw⟩
    intro H1364 hw
    obtain ⟨G1367, acc1369, vs1370, eG1368, S1365, h1366, d1371, eo1375, hw⟩ := hw
    have hw := hK1294 _ (cW_mapA0 ((minV rl1290 rd1291).trans (zipG_len _ _).symm) hw)
    have fr1376 := S0.free n1296
    obtain ⟨G1377, eG1378, hg1379, S1380⟩ := Sep.freeze (O' := []) S1365 (.head _) h1366 fr1376 (all_nil)
    have hw := cW_ok hw
    exact hK0 _ hw _ _ _ S1380.b0 S1380.g0 S1380.sG S1380.gn (rp_mk_list hg1379 (RpAll.mono eG1378 d1371))

abbrev N_block_side : List Str := ["fmt", "plane"]
theorem sc_block_side : FnScope N_block_side ["fmt", "plane"] (defScope s_block_side) := ⟨rfl, rfl, rfl, by decide +kernel, rfl, by decide +kernel, by decide +kernel⟩
theorem ok_block_side (D : DefX K mg "block_side" s_block_side ["fmt", "plane"] pats_block_side) (T : Txt w K mg AD)  : CalX P w K mg base 1 "block_side" (sp_block_side K AD) pats_block_side := by
  refine D.ok sc_block_side (fun vs H Q E h => ?_) (fun f cdv A_ outer s H vs Q E hr h => ?_)
  · obtain ⟨G, p_fmt, dx_fmt, fmt', plane', rfl, _⟩ := h
    rfl
  · obtain ⟨G, p_fmt, dx_fmt, fmt', plane', rfl, sG, h_p_fmt, hw⟩ := h
    refine ⟨_, (pss_one (ps_ret (pe_ifExp (PW.pt (pw_and (pt_cmp (pc_gt (pv 1) pe_int)) (pw_and1 (pt_cmp (pc_eqI (fldK (K := K) (pv 0)) pe_int))))) (pe_op op_fdivW (C8.pe_gc rfl T.g_BLOCK) pe_int) (C8.pe_gc rfl T.g_BLOCK)))), ?_⟩
    obtain ⟨KK, EE, hK0, hE, hw⟩ := cW_gen hw
    have S0 := Sep.startG sG
    unfold F_block_side at hw
    refine ⟨_, rfl, _, _, rfl, rfl, _, rfl, ?_⟩
    refine iteD (fun c1381 => ?_) (fun c1381 => ?_)
    · have hw := cW_pos c1381 hw
      refine ⟨_, rfl, _, _, _, _, _, rfl, (S0.bM _ _ h_p_fmt), T.cl_Format, T.n_Format_chroma, rfl, _, _, rfl, rfl, _, rfl, ?_⟩
      refine iteD (fun c1382 => ?_) (fun c1382 => ?_)
      · have hw := cW_pos c1382 hw
        refine ⟨_, _, rfl, rfl, (divW_lit (by decide) (by decide)), ?_⟩
        have hw := cW_ok hw
        exact hK0 _ hw _ S0.b0
      · have hw := cW_neg c1382 hw
        have hw := cW_ok hw
        exact hK0 _ hw _ S0.b0
    · have hw := cW_neg c1381 hw
      refine iteF ?_
      have hw := cW_ok hw
      exact hK0 _ hw _ S0.b0

abbrev N_clip : List Str := ["value", "low", "high"]
theorem sc_clip : FnScope N_clip ["value", "low", "high"] (defScope s_clip) := ⟨rfl, rfl, rfl, by decide +kernel, rfl, by decide +kernel, by decide +kernel⟩
theorem ok_clip (D : DefX K mg "clip" s_clip ["value", "low", "high"] pats_clip) (T : Txt w K mg AD)  : CalX P w K mg base 1 "clip" (sp_clip K AD) pats_clip := by
  refine D.ok sc_clip (fun vs H Q E h => ?_) (fun f cdv A_ outer s H vs Q E hr h => ?_)
  · obtain ⟨G, value', low', high', rfl, _⟩ := h
    rfl
  · obtain ⟨G, value', low', high', rfl, sG, hw⟩ := h
    refine ⟨_, (pss_one (ps_ret (pe_callB (call_min2 rfl) (by rfl) T.b_min (by decide +kernel) (pa_cons (pe_callB (call_max2 rfl) (by rfl) T.b_max (by decide +kernel) (pa_cons (pv 0) (pa_cons (pv 1) pa_nil))) (pa_cons (pv 2) pa_nil))))), ?_⟩
    obtain ⟨KK, EE, hK0, hE, hw⟩ := cW_gen hw
    have S0 := Sep.startG sG
    unfold F_clip at hw
    refine ⟨_, rfl, _, rfl, _, _, rfl, _, rfl, _, _, rfl, ?_⟩
    have hw := cW_ok hw
    exact hK0 _ hw

abbrev N_smooth_edge : List Str := ["a1", "a0", "b0", "b1", "limit", "top", "is_flat", "more"]
theorem sc_smooth_edge : FnScope N_smooth_edge ["a1", "a0", "b0", "b1", "limit", "top"] (defScope s_smooth_edge) := ⟨rfl, rfl, rfl, by decide +kernel, rfl, by decide +kernel, by decide +kernel⟩
theorem ok_smooth_edge (D : DefX K mg "smooth_edge" s_smooth_edge ["a1", "a0", "b0", "b1", "limit", "top"] pats_smooth_edge) (T : Txt w K mg AD) (c_clip : CalX P w K mg base 1 "clip" (sp_clip K AD) pats_clip) : CalX P w K mg base 2 "smooth_edge" (sp_smooth_edge K AD) pats_smooth_edge := by
  refine D.ok sc_smooth_edge (fun vs H Q E h => ?_) (fun f cdv A_ outer s H vs Q E hr h => ?_)
  · obtain ⟨G, a1', a0', b0', b1', limit', top', rfl, _⟩ := h
    rfl
  · obtain ⟨G, a1', a0', b0', b1', limit', top', rfl, sG, hw⟩ := h
    refine ⟨_, (pss_cons (ps_set (i := 6) sc_smooth_edge.nd rfl (Or.inl rfl) (pe_and (pe_cmp (pc_lt (pe_callB call_abs (by rfl) T.b_abs (by decide +kernel) (pa_cons (pe_op op_sub (pv 0) (pv 1)) pa_nil)) (pv 4))) (pe_one (pe_cmp (pc_lt (pe_callB call_abs (by rfl) T.b_abs (by decide +kernel) (pa_cons (pe_op op_sub (pv 3) (pv 2)) pa_nil)) (pv 4))))))
      (pss_cons (ps_if (PW.pt (pw_or (pt_not (pt_val (pv 6))) (pw_or1 (pt_cmp (pc_ge (pe_callB call_abs (by rfl) T.b_abs (by decide +kernel) (pa_cons (pe_op op_sub (pv 1) (pv 2)) pa_nil)) (pe_op op_mul pe_int (pv 4))))))) (pss_one (ps_ret (pe_tup (pa_cons (pv 1) (pa_cons (pv 2) pa_nil))))) pss_nil)
      (pss_cons (ps_set (i := 7) sc_smooth_edge.nd rfl (Or.inl rfl) (vx_callX c_clip pat_clip_0 (.head _) hr (by decide) (takes_of rfl rfl rfl rfl) rfl (pa_cons (pe_op op_shr (pe_op op_add (pe_op op_sub (pe_op op_add (pe_op op_mul pe_int (pe_op op_sub (pv 2) (pv 1))) (pv 0)) (pv 3)) pe_int) pe_int) (pa_cons (pe_un un_neg (pv 4)) (pa_cons (pv 4) pa_nil))) pk_nil))
      (pss_one (ps_ret (pe_tup (pa_cons (vx_callX c_clip pat_clip_0 (.head _) hr (by decide) (takes_of rfl rfl rfl rfl) rfl (pa_cons (pe_op op_add (pv 1) (pv 7)) (pa_cons pe_int (pa_cons (pv 5) pa_nil))) pk_nil) (pa_cons (vx_callX c_clip pat_clip_0 (.head _) hr (by decide) (takes_of rfl rfl rfl rfl) rfl (pa_cons (pe_op op_sub (pv 2) (pv 7)) (pa_cons pe_int (pa_cons (pv 5) pa_nil))) pk_nil) pa_nil)))))))), ?_⟩
    obtain ⟨KK, EE, hK0, hE, hw⟩ := cW_gen hw
    have S0 := Sep.startG sG
    unfold F_smooth_edge at hw
    refine vv_and (ta := (tLt (tCB (fun xs H Q => ∃ i, xs = [V.int i] ∧ Q (V.int (if i < 0 then -i else i)) H) (tCons (tOp (rI0 fun i j => V.int (i - j)) (tVar 0) (tVar 1)) tNil)) (tVar 4))) (tb := (tLt (tCB (fun xs H Q => ∃ i, xs = [V.int i] ∧ Q (V.int (if i < 0 then -i else i)) H) (tCons (tOp (rI0 fun i j => V.int (i - j)) (tVar 3) (tVar 2)) tNil)) (tVar 4))) (a := decide ((if (a1' - a0') < 0 then -(a1' - a0') else (a1' - a0')) < limit')) (b := decide ((if (b1' - b0') < 0 then -(b1' - b0') else (b1' - b0')) < limit')) ?ha1383 ?hb1384 _ ?_
    case ha1383 => exact (vv_cmp (vv_call1 (val_op (val_var rfl) (val_var rfl) (fun Q q => ⟨_, _, rfl, rfl, q⟩)) (fun Q q => ⟨_, rfl, q⟩)) (val_var rfl) (fun Q q => ⟨_, _, rfl, rfl, q⟩))
    case hb1384 => exact (vv_cmp (vv_call1 (val_op (val_var rfl) (val_var rfl) (fun Q q => ⟨_, _, rfl, rfl, q⟩)) (fun Q q => ⟨_, rfl, q⟩)) (val_var rfl) (fun Q q => ⟨_, _, rfl, rfl, q⟩))
    have hw := cW_bnd hw
    refine ⟨_, rfl, _, rfl, ?_⟩
    refine iteBN (fun c1386 => ?_) (fun c1386 => ?_)
    · have hw := cW_negB c1386 hw
      refine iteT ?_
      refine ⟨_, rfl, _, rfl, (by show 2 ≤ sizeLine; decide), fun p1387 n1388 => ?_⟩
      generalize g1389 : upd H p1387 _ = H1390
      obtain ⟨e1391, h1392⟩ := gen_new n1388 g1389
      have h1393 : H1390 p1387 = some (.tup [V.int (a0'), V.int (b0')]) := h1392
      have fr1394 := S0.free n1388
      obtain ⟨G1396, eG1397, hg1398, S1395⟩ := S0.grow n1388 e1391 h1393 fr1394
      have hw := cW_ok hw
      exact hK0 _ hw _ _ _ S1395.b0 S1395.g0 S1395.sG S1395.gn (rp_mk2 hg1398 (.int _) (.int _))
    · have hw := cW_pos c1386 hw
      refine ⟨_, rfl, _, rfl, _, _, rfl, rfl, _, rfl, _, rfl, _, _, rfl, rfl, (.inl ⟨by decide, by decide⟩), _, _, rfl, rfl, _, rfl, ?_⟩
      refine iteD (fun c1399 => ?_) (fun c1399 => ?_)
      · have hw := cW_pos c1399 hw
        refine ⟨_, rfl, _, rfl, (by show 2 ≤ sizeLine; decide), fun p1400 n1401 => ?_⟩
        generalize g1402 : upd H p1400 _ = H1403
        obtain ⟨e1404, h1405⟩ := gen_new n1401 g1402
        have h1406 : H1403 p1400 = some (.tup [V.int (a0'), V.int (b0')]) := h1405
        have fr1407 := S0.free n1401
        obtain ⟨G1409, eG1410, hg1411, S1408⟩ := S0.grow n1401 e1404 h1406 fr1407
        have hw := cW_ok hw
        exact hK0 _ hw _ _ _ S1408.b0 S1408.g0 S1408.sG S1408.gn (rp_mk2 hg1411 (.int _) (.int _))
      · have hw := cW_neg c1399 hw
        refine ⟨_, rfl, _, rfl, _, _, rfl, rfl, _, _, rfl, rfl, (.inl ⟨by decide, by decide⟩), _, rfl, _, _, rfl, rfl, _, rfl, _, _, rfl, rfl, _, _, rfl, rfl, _, _, rfl, rfl, (show (0 : Int) ≤ 3 by decide), _, rfl, _, rfl, _, rfl, rfl, rfl, G, _, _, _, rfl, S0.sG, cW_call hw (fun v1412 hw => ?_) (fun e he => hE e he _ S0.b0)⟩
        refine ⟨_, rfl, _, rfl, _, _, rfl, rfl, _, rfl, rfl, rfl, G, _, _, _, rfl, S0.sG, cW_call hw (fun v1413 hw => ?_) (fun e he => hE e he _ S0.b0)⟩
        refine ⟨_, rfl, _, rfl, _, _, rfl, rfl, _, rfl, rfl, rfl, G, _, _, _, rfl, S0.sG, cW_call hw (fun v1414 hw => ?_) (fun e he => hE e he _ S0.b0)⟩
        refine ⟨(by show 2 ≤ sizeLine; decide), fun p1415 n1416 => ?_⟩
        generalize g1417 : upd H p1415 _ = H1418
        obtain ⟨e1419, h1420⟩ := gen_new n1416 g1417
        have h1421 : H1418 p1415 = some (.tup [V.int (v1413), V.int (v1414)]) := h1420
        have fr1422 := S0.free n1416
        obtain ⟨G1424, eG1425, hg1426, S1423⟩ := S0.grow n1416 e1419 h1421 fr1422
        have hw := cW_ok hw
        exact hK0 _ hw _ _ _ S1423.b0 S1423.g0 S1423.sG S1423.gn (rp_mk2 hg1426 (.int _) (.int _))

abbrev N__smooth_row : List Str := ["row", "limits", "side", "top", "smooth", "place", "limit", "x", "a1", "a0", "b0", "b1"]
theorem sc__smooth_row : FnScope N__smooth_row ["row", "limits", "side", "top"] (defScope s__smooth_row) := ⟨rfl, rfl, rfl, by decide +kernel, rfl, by decide +kernel, by decide +kernel⟩
theorem ok__smooth_row (D : DefX K mg "_smooth_row" s__smooth_row ["row", "limits", "side", "top"] pats__smooth_row) (T : Txt w K mg AD) (c_smooth_edge : CalX P w K mg base 2 "smooth_edge" (sp_smooth_edge K AD) pats_smooth_edge) : CalX P w K mg base 3 "_smooth_row" (sp__smooth_row K AD) pats__smooth_row := by
  refine D.ok sc__smooth_row (fun vs H Q E h => ?_) (fun f cdv A_ outer s H vs Q E hr h => ?_)
  · obtain ⟨G, a_row, row', a_limits, limits', side', top', rfl, _⟩ := h
    rfl
  · obtain ⟨G, a_row, row', a_limits, limits', side', top', rfl, sG, q_row, q_limits, hw⟩ := h
    refine ⟨_, (pss_cons (ps_set (i := 4) sc__smooth_row.nd rfl (Or.inl rfl) (pe_callTy (call_listLK (K := K)) (by rfl) T.b_list (by decide +kernel) (pa_cons (pv 0) pa_nil)))
      (pss_cons (ps_for (passes_of rfl) rfl (pi_enumK (K := K) rfl T.b_enumerate (pa_cons (pv 1) pa_nil)) (pg_tupK (K := K) (n := 2) (pgs_cons (pg_name (i := 5) sc__smooth_row.nd rfl (Or.inl rfl)) (pgs_cons (pg_name (i := 6) sc__smooth_row.nd rfl (Or.inl rfl)) pgs_nil))) (pss_cons (ps_set (i := 7) sc__smooth_row.nd rfl (Or.inl rfl) (pe_op op_mul (pe_op op_add (pv 5) pe_int) (pv 2)))
      (pss_cons (ps_asg (pe_slice (sl_listK (K := K)) (pv 4) (po_some (pe_op op_sub (pv 7) pe_int)) (po_some (pe_op op_add (pv 7) pe_int))) (pg_seqK (K := K) (n := 4) (pgs_cons (pg_name (i := 8) sc__smooth_row.nd rfl (Or.inl rfl)) (pgs_cons (pg_name (i := 9) sc__smooth_row.nd rfl (Or.inl rfl)) (pgs_cons (pg_name (i := 10) sc__smooth_row.nd rfl (Or.inl rfl)) (pgs_cons (pg_name (i := 11) sc__smooth_row.nd rfl (Or.inl rfl)) pgs_nil))))))
      (pss_one (ps_ssetT (K := K) (pv 4) (po_some (pe_op op_sub (pv 7) pe_int)) (po_some (pe_op op_add (pv 7) pe_int)) (vx_callX c_smooth_edge pat_smooth_edge_0 (.head _) hr (by decide) (takes_of rfl rfl rfl rfl) rfl (pa_cons (pv 8) (pa_cons (pv 9) (pa_cons (pv 10) (pa_cons (pv 11) pa_nil)))) (pk_cons (pv 6) (pk_cons (pv 3) pk_nil))) rfl)))))
      (pss_one (ps_ret (pv 4))))), ?_⟩
    obtain ⟨KK, EE, hK0, hE, hw⟩ := cW_gen hw
    have S0 := Sep.startG sG
    unfold F__smooth_row at hw
    refine ⟨_, rfl, _, _, rfl, (SqL.of (S0.bM _ _ q_row)), fun p1427 n1428 => ?_⟩
    generalize g1429 : upd H p1427 _ = H1430
    obtain ⟨e1431, h1432⟩ := gen_new n1428 g1429
    have h1433 : H1430 p1427 = some (.lst ((row' : (List Int)).map V.int)) := h1432
    have fr1434 := S0.free n1428
    have S1435 := S0.new n1428 e1431 h1433 fr1434
    obtain ⟨K1438, hK1439, hw⟩ := cW_push hw
    refine ⟨_, rfl, _, _, rfl, (SqL.of (S1435.bM _ _ q_limits)), for_enum (K := K) (a := a_limits) (xs := (limits' : List Int).map V.int) (fun i σ H' => ∃ (smooth_1440 : (List Int)) (u1441 : Option V) (u1442 : Option V) (u1443 : Option V) (u1444 : Option V) (u1445 : Option V) (u1446 : Option V) (u1447 : Option V) (G' : Hp), σ = [some (V.ref a_row), some (V.ref a_limits), some (V.int (side')), some (V.int (top')), some (V.ref p1427), u1441, u1442, u1443, u1444, u1445, u1446, u1447] ∧ Same G G' ∧ Sep [] H G G' H' [p1427] ∧ H' p1427 = some (.lst ((smooth_1440 : (List Int)).map V.int)) ∧ cW (forS (List.drop i (enumL (limits'))) smooth_1440 (fun s x => F__smooth_row_b1 (side') (top') s x)) K1438 EE) ?_ ?_ ?_ ?_⟩
    · exact ⟨(row'), _, _, _, _, _, _, _, _, rfl, (Same.refl _), S1435, h1433, hw⟩
    · intro i σ H1448 hw
      obtain ⟨smooth_1440, u1441, u1442, u1443, u1444, u1445, u1446, u1447, G1451, rfl, eG1452, S1449, h1450, hw⟩ := hw
      exact (SqL.of (S1449.bM _ _ q_limits))
    · intro i x T1454 σ H1453 hj n1455 hw
      obtain ⟨smooth_1440, u1441, u1442, u1443, u1444, u1445, u1446, u1447, G1458, rfl, eG1459, S1456, h1457, hw⟩ := hw
      obtain ⟨x1460, hx1461, rfl⟩ := map_get hj
      generalize g1462 : upd H1453 T1454 _ = H1463
      obtain ⟨e1464, h1465⟩ := gen_new n1455 g1462
      have h1466 : H1463 T1454 = some (.tup [V.int (((i : Nat) : Int)), V.int (x1460)]) := h1465
      have fr1467 := S1456.free n1455
      obtain ⟨G1469, eG1470, hg1471, S1468⟩ := S1456.grow n1455 e1464 h1466 fr1467
      have hw := cW_forS (enumL_get hx1461) hw
      have hw : cW (F__smooth_row_b1 (side') (top') (smooth_1440) ((((i : Nat) : Int), x1460))) _ EE := hw
      unfold F__smooth_row_b1 at hw
      obtain ⟨K1473, hK1474, hw⟩ := cW_name hw
      obtain ⟨g1476, hw⟩ := cW_grd hw
      refine ⟨_, _, rfl, (SqT.of (S1468.sG _ _ hg1471)), rfl, _, _, rfl, _, _, rfl, rfl, _, rfl, _, _, rfl, rfl, _, rfl, _, _, rfl, rfl, g1476, ?_⟩
      have hw := cW_bnd hw
      have h1478 := (e1464 _ _ h1457)
      refine ⟨_, rfl, _, rfl, _, _, rfl, rfl, _, rfl, _, rfl, _, _, rfl, rfl, _, rfl, _, _, rfl, (SqL.of h1478), fun p1479 n1480 => ?_⟩
      generalize g1481 : upd H1463 p1479 _ = H1482
      obtain ⟨e1483, h1484⟩ := gen_new n1480 g1481
      have h1485 : H1482 p1479 = some (.lst ((cutL (smooth_1440) (some ((((((i : Nat) : Int) + 1) * side') - 2))) (some ((((((i : Nat) : Int) + 1) * side') + 2))) : (List Int)).map V.int)) := cut_map h1484
      have fr1486 := S1468.free n1480
      have S1487 := S1468.new n1480 e1483 h1485 fr1486
      obtain ⟨g1488, hw⟩ := cW_grd hw
      refine ⟨_, [V.int ((itD (cutL (smooth_1440) (some ((((((i : Nat) : Int) + 1) * side') - 2))) (some ((((((i : Nat) : Int) + 1) * side') + 2)))) 0)), V.int ((itD (cutL (smooth_1440) (some ((((((i : Nat) : Int) + 1) * side') - 2))) (some ((((((i : Nat) : Int) + 1) * side') + 2)))) 1)), V.int ((itD (cutL (smooth_1440) (some ((((((i : Nat) : Int) + 1) * side') - 2))) (some ((((((i : Nat) : Int) + 1) * side') + 2)))) 2)), V.int ((itD (cutL (smooth_1440) (some ((((((i : Nat) : Int) + 1) * side') - 2))) (some ((((((i : Nat) : Int) + 1) * side') + 2)))) 3))], rfl, (SqL.cast (SqL.of h1485) (unp4 g1488)), rfl, _, _, rfl, _, _, rfl, _, _, rfl, _, _, rfl, rfl, ?_⟩
      have hw := cW_bnd hw
      have hw := cW_bnd hw
      have hw := cW_bnd hw
      have hw := cW_bnd hw
      refine ⟨_, rfl, _, rfl, _, rfl, _, rfl, _, rfl, _, rfl, rfl, rfl, G1469, _, _, _, _, _, _, rfl, S1487.sG, cW_call hw (fun v1493 hw v1496 H1494 G1497 e1495 eG1498 sG1499 hn1500 r1501 => ?_) (fun e he H2 e2 => hE e he H2 (Same.trans S1487.b0 e2))⟩
      have S1502 := S1487.step e1495 eG1498 sG1499 hn1500
      obtain ⟨a1503, v1505, v1506, rfl, h1504, r1507, r1508⟩ := rp_tup2 r1501
      obtain rfl := rp_int r1507
      obtain rfl := rp_int r1508
      obtain ⟨g1509, hw⟩ := cW_grd hw
      have h1510 := (e1495 _ _ (e1483 _ _ h1478))
      refine ⟨_, rfl, _, rfl, _, _, rfl, rfl, _, rfl, _, rfl, _, _, rfl, rfl, _, rfl, _, _, _, _, _, _, rfl, rfl, rfl, rfl, h1510, (SqT.of (S1502.sG _ _ h1504)), g1509.1, g1509.2.1, (slcI_hi g1509.2.2.1), (slcI_len (ys := [v1493.1, v1493.2]) g1509.2.2.2), ?_⟩
      generalize g1511 : upd H1494 p1427 _ = H1512
      obtain ⟨x1513, h1514⟩ := gen_mut g1511
      have h1515 : H1512 p1427 = some (.lst (((spliceL (smooth_1440) ((((((i : Nat) : Int) + 1) * side') - 1)) ((((((i : Nat) : Int) + 1) * side') + 1)) ([v1493.1, v1493.2])) : List Int).map V.int)) := splice_map (xs := smooth_1440) (ys := [v1493.1, v1493.2]) h1514
      have S1516 := S1502.mut1 x1513 (.tail _ (.head _)) h1515
      have hw := cW_bnd hw
      have hw := cW_ok hw
      have hw := hK1474 _ hw
      exact ⟨((spliceL (smooth_1440) ((((((i : Nat) : Int) + 1) * side') - 1)) ((((((i : Nat) : Int) + 1) * side') + 1)) ([v1493.1, v1493.2]))), _, _, _, _, _, _, _, _, rfl, (Same.trans (Same.trans eG1459 eG1470) eG1498), (S1516.sub (all_cons (.tail _ (.head _)) all_nil)), h1515, hw⟩
    · intro σ H1518 hw
      obtain ⟨smooth_1440, u1441, u1442, u1443, u1444, u1445, u1446, u1447, G1521, rfl, eG1522, S1519, h1520, hw⟩ := hw
      have hw := hK1439 _ (cW_forS0 (by rw [enumL_len]; exact (by rw [List.length_map])) hw)
      have hw : cW (F__smooth_row_r1  (smooth_1440)) _ EE := hw
      unfold F__smooth_row_r1 at hw
      refine ⟨_, rfl, ?_⟩
      have hw := cW_ok hw
      exact hK0 _ hw _ _ fr1434 S1519.b0 h1520

abbrev N__smooth_rows : List Str := ["plane", "limits", "side", "top", "y", "row"]
theorem sc__smooth_rows : FnScope N__smooth_rows ["plane", "limits", "side", "top"] (defScope s__smooth_rows) := ⟨rfl, rfl, rfl, by decide +kernel, rfl, by decide +kernel, by decide +kernel⟩
theorem ok__smooth_rows (D : DefX K mg "_smooth_rows" s__smooth_rows ["plane", "limits", "side", "top"] pats__smooth_rows) (T : Txt w K mg AD) (c__smooth_row : CalX P w K mg base 3 "_smooth_row" (sp__smooth_row K AD) pats__smooth_row) : CalX P w K mg base 4 "_smooth_rows" (sp__smooth_rows K AD) pats__smooth_rows := by
  refine D.ok sc__smooth_rows (fun vs H Q E h => ?_) (fun f cdv A_ outer s H vs Q E hr h => ?_)
  · obtain ⟨G, v_plane, plane', v_limits, limits', side', top', rfl, _⟩ := h
    rfl
  · obtain ⟨G, v_plane, plane', v_limits, limits', side', top', rfl, sG, r_plane, r_limits, hw⟩ := h
    refine ⟨_, (pss_one (ps_ret (pe_lc (own := [("y", 4), ("row", 5)]) (g := gTup K 2 (gCons (gName 4) (gCons (gName 5) gNil))) (by rfl) sc__smooth_rows.nd (pi_enumK (K := K) rfl T.b_enumerate (pa_cons (pv 0) pa_nil)) (blkOk_by (own := [("y", 4), ("row", 5)]) (N := N__smooth_rows) (sc := defScope s__smooth_rows) (by decide +kernel)) (fun _ _ _ _ _ => (pg_tupK (K := K) (n := 2) (pgs_cons (pg_name (i := 4) sc__smooth_rows.nd rfl (Or.inl rfl)) (pgs_cons (pg_name (i := 5) sc__smooth_rows.nd rfl (Or.inl rfl)) pgs_nil)))) (fun _ _ _ _ _ => pts_nil) (fun _ _ _ _ _ => (vx_callX c__smooth_row pat__smooth_row_0 (.head _) hr (by decide) takes0 rfl (pa_cons (pv 5) (pa_cons (pe_ix (ix_listK (K := K)) (pv 1) (pe_op op_fdivW (pv 4) (pv 2)) (fun _ _ => rfl)) (pa_cons (pv 2) (pa_cons (pv 3) pa_nil)))) pk_nil))))), ?_⟩
    obtain ⟨KK, EE, hK0, hE, hw⟩ := cW_gen hw
    have S0 := Sep.startG sG
    unfold F__smooth_rows at hw
    obtain ⟨a1524, vs1525, rfl, h1526, d1527⟩ := rp_list r_plane
    obtain ⟨a1528, vs1529, rfl, h1530, d1531⟩ := rp_list r_limits
    obtain ⟨K1536, hK1537, hw⟩ := cW_push hw
    refine ⟨_, rfl, _, _, rfl, (SqL.of (S0.bM _ _ h1526)), fun D1538 n1539 => lc_enum (K := K) (a := a1524) (xs := vs1525) (fun i1 H' => ∃ (G' : Hp) (acc1541 : (List (List Int))) (vs1542 : List V) (L1540 : List Addr), Same G G' ∧ Sep [] H G G' H' (D1538 :: (L1540 ++ [])) ∧ H' D1538 = some (.lst vs1542) ∧ OwAll G' H' L1540 vs1542 ((acc1541 : (List (List Int))).map (oL oI)) ∧ (∀ b ∈ L1540, H b = none) ∧ (∀ b ∈ L1540, b ≠ D1538) ∧ Same H H' ∧ cW (mapA (List.drop i1 (enumL (plane'))) acc1541 (fun x => noEr (F__smooth_rows_c1 (limits') (side') (top') x))) K1536 EE) ?_ ?_ ?_ ?_⟩
    · generalize g1543 : upd H D1538 _ = H1544
      obtain ⟨e1545, h1546⟩ := gen_new n1539 g1543
      have fr1547 := S0.free n1539
      have S1548 := S0.new n1539 e1545 h1546 fr1547
      exact ⟨_, [], [], [], Same.refl _, (S1548.sub (all_cons (.head _) (all_app (L := []) all_nil all_nil))), h1546, OwAll.nil, all_nil, all_nil, e1545, hw⟩
    · intro i1 H1549 _ hw
      obtain ⟨G1552, acc1554, vs1555, L1557, eG1553, S1550, h1551, d1556, nb1558, nd1559, eo1560, hw⟩ := hw
      exact (SqL.of (S1550.bM _ _ h1526))
    · intro i1 x T1563 H1561 hj n1562 hw
      obtain ⟨G1566, acc1568, vs1569, L1571, eG1567, S1564, h1565, d1570, nb1572, nd1573, eo1574, hw⟩ := hw
      obtain ⟨x1575, hx1576, r1577⟩ := RpAll.get d1527 hj
      obtain ⟨a1578, rfl, h1579⟩ := rp_ints r1577
      generalize g1580 : upd H1561 T1563 _ = H1581
      obtain ⟨e1582, h1583⟩ := gen_new n1562 g1580
      have h1584 : H1581 T1563 = some (.tup [V.int (((i1 : Nat) : Int)), V.ref a1578]) := h1583
      have fr1585 := S1564.free n1562
      obtain ⟨G1587, eG1588, hg1589, S1586⟩ := S1564.grow n1562 e1582 h1584 fr1585
      obtain ⟨z1590, hw⟩ := cW_mapA (enumL_get hx1576) hw
      have hw := cW_noEr hw
      have hw : cW (F__smooth_rows_c1 (limits') (side') (top') ((((i1 : Nat) : Int), x1575))) _ (fun _ => False) := hw
      unfold F__smooth_rows_c1 at hw
      refine ⟨_, _, rfl, (SqT.of (S1586.sG _ _ hg1589)), rfl, _, _, rfl, _, _, rfl, rfl, rfl, ?_⟩
      refine tyes_go ?_
      obtain ⟨g1592, hw⟩ := cW_grd hw
      obtain ⟨g1593, hw⟩ := cW_grd hw
      obtain ⟨v1594, a1595, r1596⟩ := RpAll.ixD (k := (((i1 : Nat) : Int) / side')) d1531 g1593
      obtain ⟨a1597, rfl, h1598⟩ := rp_ints r1596
      refine ⟨_, rfl, _, rfl, _, rfl, _, rfl, _, _, rfl, rfl, (divW_small g1592.1 g1592.2), _, _, _, _, rfl, rfl, (SqL.of (S1586.bM _ _ h1530)), a1595, _, rfl, _, rfl, rfl, rfl, G1587, _, _, _, _, _, _, rfl, S1586.sG, (hide_nil (S1586.bM _ _ h1579)), (hide_nil (S1586.bM _ _ h1598)), cW_call hw (fun v1599 hw p1602 H1600 n1603 e1601 h1604 => ?_) (fun e he => he.elim)⟩
      have h1605 : H1600 p1602 = some (.lst ((v1599 : (List Int)).map V.int)) := h1604
      have fr1606 := S1586.free n1603
      have S1607 := S1586.new n1603 e1601 h1605 fr1606
      have w1608 : OwAll G1587 H1600 L1571 (vs1569) ((acc1568 : (List (List Int))).map (oL oI)) := (OwAll.mono eG1588 keeps_refl (OwAll.mono (Same.refl _) (keeps_same e1601) (OwAll.mono (Same.refl _) (keeps_same e1582) d1570)))
      have h1609 := (e1601 _ _ (e1582 _ _ h1565))
      refine ⟨_, h1609, (app_len (OwAll.rpA w1608 (encO_L encO_I) S1607.sG) z1590), ?_⟩
      generalize g1610 : upd H1600 D1538 _ = H1611
      obtain ⟨x1612, h1613⟩ := gen_mut g1610
      have S1614 := S1607.mut1 x1612 (.tail _ (.head _)) h1613
      have hw := cW_ok hw
      exact ⟨_, (acc1568 ++ [v1599]), _, (L1571 ++ (p1602 :: ([] : List Addr))), (Same.trans eG1567 eG1588), (S1614.sub (all_cons (.tail _ (.head _)) (all_app (all_app ((fun b hb => (.tail _ (.tail _ (List.mem_append_left _ hb)))) : ∀ b ∈ L1571, b ∈ (p1602 :: (D1538 :: (L1571 ++ [])))) (all_cons (.head _) all_nil)) all_nil))), h1613, (OwAll.mono (Same.refl _) (keeps_mut x1612 ((all_app nd1573 (all_cons (ne_of_none (e1582 _ _ h1565) n1603).symm all_nil)) : ∀ b ∈ (L1571 ++ (p1602 :: ([] : List Addr))), b ≠ D1538)) (OwAll.snocM w1608 (Ow.ints h1605) ((fun b hb => (nm_cons ((there_ne (fun b_ hb_ => (S1586.ow b_ (((fun b hb => (.tail _ (List.mem_append_left _ hb))) : ∀ b ∈ L1571, b ∈ (D1538 :: (L1571 ++ []))) b_ hb_)).2.1) n1603) b hb) nm_nil)) : ∀ b ∈ L1571, b ∉ (p1602 :: ([] : List Addr))))), ((all_app nb1572 (all_cons (none_of_same (Same.trans eo1574 e1582) n1603) all_nil)) : ∀ b ∈ (L1571 ++ (p1602 :: ([] : List Addr))), H b = none), ((all_app nd1573 (all_cons (ne_of_none (e1582 _ _ h1565) n1603).symm all_nil)) : ∀ b ∈ (L1571 ++ (p1602 :: ([] : List Addr))), b ≠ D1538), (same_mut (Same.trans (Same.trans eo1574 e1582) e1601) x1612 n1539), hw⟩
    intro H1615 hw
    obtain ⟨G1618, acc1620, vs1621, L1623, eG1619, S1616, h1617, d1622, nb1624, nd1625, eo1626, hw⟩ := hw
    have hw := hK1537 _ (cW_mapA0 (by rw [enumL_len]; exact (by rw [d1527.len, List.length_map])) hw)
    have fr1627 := S0.free n1539
    have hw := cW_ok hw
    exact hK0 _ hw _ _ _ _ _ fr1627 ((fun b hb => S0.free (nb1624 b hb)) : ∀ b ∈ L1623, H b = none) (nd1625 : ∀ b ∈ L1623, b ≠ D1538) S1616.b0 S1616.g0 S1616.sG S1616.gn (S1616.ow _ (.head _)).1 ((fun b hb => (S1616.ow b (((fun b hb => (.tail _ (List.mem_append_left _ hb))) : ∀ b ∈ L1623, b ∈ (D1538 :: (L1623 ++ []))) b hb)).1) : ∀ b ∈ L1623, G1618 b = none) h1617 d1622

abbrev N_Format_top : List Str := ["self"]
theorem sc_Format_top : FnScope N_Format_top ["self"] (defScope s_Format_top) := ⟨rfl, rfl, rfl, by decide +kernel, rfl, by decide +kernel, by decide +kernel⟩
theorem ok_Format_top (D : PropX K AD.c_Format "Format.top" "top" s_Format_top ["self"] pats_Format_top) (T : Txt w K mg AD)  : PropY P w K mg base 1 AD.c_Format "top" (sp_Format_top K AD) pats_Format_top := by
  refine D.ok T.cl_Format sc_Format_top (fun vs H Q E h => ?_) (fun f cdv A_ outer s H vs Q E hr h => ?_)
  · obtain ⟨G, p_self, dx_self, self', rfl, _⟩ := h
    rfl
  · obtain ⟨G, p_self, dx_self, self', rfl, sG, h_p_self, hw⟩ := h
    refine ⟨_, (pss_one (ps_ret (pe_op op_sub (pe_op op_shlW pe_int (fldK (K := K) (pv 0))) pe_int))), ?_⟩
    obtain ⟨KK, EE, hK0, hE, hw⟩ := cW_gen hw
    have S0 := Sep.startG sG
    unfold F_Format_top at hw
    obtain ⟨g1628, hw⟩ := cW_grd hw
    refine ⟨_, rfl, _, _, _, _, _, rfl, (S0.bM _ _ h_p_self), T.cl_Format, T.n_Format_depth, rfl, _, _, rfl, rfl, (shl_side g1628.1 g1628.2.1 g1628.2.2.1 g1628.2.2.2), _, _, rfl, rfl, ?_⟩
    have hw := cW_ok hw
    exact hK0 _ hw _ S0.b0

abbrev N_deblock : List Str := ["fmt", "header", "planes", "blocks", "vertical", "horizontal", "filtered", "index", "plane", "side", "rows", "columns"]
theorem sc_deblock : FnScope N_deblock ["fmt", "header", "planes", "blocks"] (defScope s_deblock) := ⟨rfl, rfl, rfl, by decide +kernel, rfl, by decide +kernel, by decide +kernel⟩
theorem ok_deblock (D : DefX K mg "deblock" s_deblock ["fmt", "header", "planes", "blocks"] pats_deblock) (T : Txt w K mg AD) (c__limits : CalX P w K mg base 4 "_limits" (sp__limits K AD) pats__limits) (c_transposed_v_b : CalX P w K mg base 1 "transposed" (sp_transposed_v_b K AD) pats_transposed_v_b) (c_block_side : CalX P w K mg base 1 "block_side" (sp_block_side K AD) pats_block_side) (c__smooth_rows : CalX P w K mg base 4 "_smooth_rows" (sp__smooth_rows K AD) pats__smooth_rows) (c_Format_top : PropY P w K mg base 1 AD.c_Format "top" (sp_Format_top K AD) pats_Format_top) (c_transposed : CalX P w K mg base 1 "transposed" (sp_transposed K AD) pats_transposed) : CalX P w K mg base 5 "deblock" (sp_deblock K AD) pats_deblock := by
  refine D.ok sc_deblock (fun vs H Q E h => ?_) (fun f cdv A_ outer s H vs Q E hr h => ?_)
  · obtain ⟨G, p_fmt, dx_fmt, fmt', p_header, l_header_store, l_header_refs, dx_header, header', v_planes, planes', v_blocks, blocks', rfl, _⟩ := h
    rfl
  · obtain ⟨G, p_fmt, dx_fmt, fmt', p_header, l_header_store, l_header_refs, dx_header, header', v_planes, planes', v_blocks, blocks', rfl, sG, h_p_fmt, h_p_header, h_l_header_store, h_l_header_refs, r_planes, r_blocks, hw⟩ := h
    refine ⟨_, (pss_cons (ps_set (i := 4) sc_deblock.nd rfl (Or.inl rfl) (vx_callX c__limits pat__limits_0 (.head _) hr (by decide) (takes_of rfl rfl rfl rfl) rfl (pa_cons (pv 3) (pa_cons (fldK (K := K) (pv 1)) pa_nil)) pk_nil))
      (pss_cons (ps_set (i := 5) sc_deblock.nd rfl (Or.inl rfl) (vx_callX c__limits pat__limits_0 (.head _) hr (by decide) (takes_of rfl rfl rfl rfl) rfl (pa_cons (vx_callX c_transposed_v_b pat_transposed_v_b_0 (.head _) hr (by decide) (takes_of rfl rfl rfl rfl) rfl (pa_cons (pv 3) pa_nil) pk_nil) (pa_cons (fldK (K := K) (pv 1)) pa_nil)) pk_nil))
      (pss_cons (ps_set (i := 6) sc_deblock.nd rfl (Or.inl rfl) (pe_lst pa_nil))
      (pss_cons (ps_for (passes_of rfl) rfl (pi_enumK (K := K) rfl T.b_enumerate (pa_cons (pv 2) pa_nil)) (pg_tupK (K := K) (n := 2) (pgs_cons (pg_name (i := 7) sc_deblock.nd rfl (Or.inl rfl)) (pgs_cons (pg_name (i := 8) sc_deblock.nd rfl (Or.inl rfl)) pgs_nil))) (pss_cons (ps_set (i := 9) sc_deblock.nd rfl (Or.inl rfl) (vx_callX c_block_side pat_block_side_0 (.head _) hr (by decide) (takes_of rfl rfl rfl rfl) rfl (pa_cons (pv 0) (pa_cons (pv 7) pa_nil)) pk_nil))
      (pss_cons (ps_set (i := 10) sc_deblock.nd rfl (Or.inl rfl) (vx_callX c__smooth_rows pat__smooth_rows_0 (.head _) hr (by decide) (takes_of rfl rfl rfl rfl) rfl (pa_cons (pv 8) (pa_cons (pv 4) (pa_cons (pv 9) (pa_cons (vx_propX c_Format_top hr (by decide) (pv 0)) pa_nil)))) pk_nil))
      (pss_cons (ps_set (i := 11) sc_deblock.nd rfl (Or.inl rfl) (vx_callX c__smooth_rows pat__smooth_rows_0 (.head _) hr (by decide) (takes_of rfl rfl rfl rfl) rfl (pa_cons (vx_callX c_transposed pat_transposed_0 (.head _) hr (by decide) (takes_of rfl rfl rfl rfl) rfl (pa_cons (pv 10) pa_nil) pk_nil) (pa_cons (pv 5) (pa_cons (pv 9) (pa_cons (vx_propX c_Format_top hr (by decide) (pv 0)) pa_nil)))) pk_nil))
      (pss_one (ps_expr (pe_bm PySem.F.plainAttrs_list PySem.F.slot_list_append PySem.F.type_list_append mt_append (pv 6) (pa_cons (vx_callX c_transposed pat_transposed_0 (.head _) hr (by decide) (takes_of rfl rfl rfl rfl) rfl (pa_cons (pv 11) pa_nil) pk_nil) pa_nil))))))))
      (pss_one (ps_ret (pv 6))))))), ?_⟩
    obtain ⟨KK, EE, hK0, hE, hw⟩ := cW_gen hw
    have S0 := Sep.startG sG
    unfold F_deblock at hw
    obtain ⟨a1629, vs1630, rfl, h1631, d1632⟩ := rp_list r_planes
    obtain ⟨a1633, vs1634, rfl, h1635, d1636⟩ := rp_list r_blocks
    refine ⟨_, rfl, _, rfl, _, _, _, _, _, rfl, (S0.bM _ _ h_p_header), T.cl_PictureHeader, T.n_PictureHeader_edge, rfl, rfl, rfl, G, _, _, _, rfl, S0.sG, (Rp.hide_nil (rp_mk_list (S0.sG _ _ h1635) (RpAll.mono S0.sG d1636))), cW_call hw (fun v1637 hw v1640 H1638 G1641 e1639 eG1642 sG1643 hn1644 r1645 => ?_) (fun e he H2 e2 => hE e he H2 (Same.trans S0.b0 e2))⟩
    have S1646 := S0.step e1639 eG1642 sG1643 hn1644
    obtain ⟨a1647, vs1648, rfl, h1649, d1650⟩ := rp_list r1645
    refine ⟨_, rfl, rfl, rfl, G1641, _, _, rfl, S1646.sG, (rp_mk_list (eG1642 _ _ h1635) (RpAll.mono eG1642 d1636)), cW_call hw (fun v1651 hw v1654 H1652 G1655 e1653 eG1656 sG1657 hn1658 r1659 => ?_) (fun e he H2 e2 => hE e he H2 (Same.trans S1646.b0 e2))⟩
    have S1660 := S1646.step e1653 eG1656 sG1657 hn1658
    obtain ⟨a1661, vs1662, rfl, h1663, d1664⟩ := rp_list r1659
    refine ⟨_, rfl, _, _, _, _, _, rfl, (S1660.bM _ _ h_p_header), T.cl_PictureHeader, T.n_PictureHeader_edge, rfl, rfl, rfl, G1655, _, _, _, rfl, S1660.sG, (Rp.hide_nil (rp_mk_list (S1660.sG _ _ h1663) (RpAll.mono S1660.sG d1664))), cW_call hw (fun v1665 hw v1668 H1666 G1669 e1667 eG1670 sG1671 hn1672 r1673 => ?_) (fun e he H2 e2 => hE e he H2 (Same.trans S1660.b0 e2))⟩
    have S1674 := S1660.step e1667 eG1670 sG1671 hn1672
    obtain ⟨a1675, vs1676, rfl, h1677, d1678⟩ := rp_list r1673
    refine ⟨(by show 0 ≤ sizeLine; decide), fun p1679 n1680 => ?_⟩
    generalize g1681 : upd H1666 p1679 _ = H1682
    obtain ⟨e1683, h1684⟩ := gen_new n1680 g1681
    have h1685 : H1682 p1679 = some (.lst ([])) := h1684
    have fr1686 := S1674.free n1680
    have S1687 := S1674.new n1680 e1683 h1685 fr1686
    have w1688 : OwAll G1669 H1682 ([] : List Addr) ([]) ((([] : (List (List (List Int)))) : (List (List (List Int)))).map (oL (oL oI))) := (OwAll.nil : OwAll _ _ [] [] (([] : List (List (List Int))).map (oL (oL oI))))
    obtain ⟨K1692, hK1693, hw⟩ := cW_push hw
    refine ⟨_, rfl, _, _, rfl, (SqL.of (S1687.bM _ _ h1631)), for_enum (K := K) (a := a1629) (xs := vs1630) (fun i σ H' => ∃ (filtered_1694 : (List (List (List Int)))) (vs1695 : List V) (L1696 : List Addr) (u1697 : Option V) (u1698 : Option V) (u1699 : Option V) (u1700 : Option V) (u1701 : Option V) (G' : Hp), σ = [some (V.ref p_fmt), some (V.ref p_header), some (V.ref a1629), some (V.ref a1633), some (V.ref a1647), some (V.ref a1675), some (V.ref p1679), u1697, u1698, u1699, u1700, u1701] ∧ Same G1669 G' ∧ Sep [] H G G' H' (p1679 :: (L1696 ++ [])) ∧ H' p1679 = some (.lst (vs1695)) ∧ (∀ b ∈ L1696, b ≠ p1679) ∧ OwAll G' H' L1696 (vs1695) ((filtered_1694 : (List (List (List Int)))).map (oL (oL oI))) ∧ cW (forS (List.drop i (enumL (planes'))) filtered_1694 (fun s x => F_deblock_b1 (fmt') (v1637) (v1665) s x)) K1692 EE) ?_ ?_ ?_ ?_⟩
    · exact ⟨(([] : (List (List (List Int))))), ([]), ([] : List Addr), _, _, _, _, _, _, rfl, (Same.refl _), (S1687.sub (all_cons (.head _) (all_app all_nil all_nil))), h1685, all_nil, w1688, hw⟩
    · intro i σ H1702 hw
      obtain ⟨filtered_1694, vs1695, L1696, u1697, u1698, u1699, u1700, u1701, G1707, rfl, eG1708, S1703, h1704, ne1705, w1706, hw⟩ := hw
      exact (SqL.of (S1703.bM _ _ h1631))
    · intro i x T1710 σ H1709 hj n1711 hw
      obtain ⟨filtered_1694, vs1695, L1696, u1697, u1698, u1699, u1700, u1701, G1716, rfl, eG1717, S1712, h1713, ne1714, w1715, hw⟩ := hw
      obtain ⟨x1718, hx1719, r1720⟩ := RpAll.get d1632 hj
      obtain ⟨a1721, vs1722, rfl, h1723, d1724⟩ := rp_list r1720
      generalize g1725 : upd H1709 T1710 _ = H1726
      obtain ⟨e1727, h1728⟩ := gen_new n1711 g1725
      have h1729 : H1726 T1710 = some (.tup [V.int (((i : Nat) : Int)), V.ref a1721]) := h1728
      have fr1730 := S1712.free n1711
      obtain ⟨G1732, eG1733, hg1734, S1731⟩ := S1712.grow n1711 e1727 h1729 fr1730
      have hw := cW_forS (enumL_get hx1719) hw
      have hw : cW (F_deblock_b1 (fmt') (v1637) (v1665) (filtered_1694) ((((i : Nat) : Int), x1718))) _ EE := hw
      unfold F_deblock_b1 at hw
      obtain ⟨K1736, hK1737, hw⟩ := cW_name hw
      refine ⟨_, _, rfl, (SqT.of (S1731.sG _ _ hg1734)), rfl, _, _, rfl, _, _, rfl, rfl, _, rfl, _, rfl, rfl, rfl, G1732, _, _, fmt', _, rfl, S1731.sG, (hide_nil (S1731.bM _ _ h_p_fmt)), cW_call hw (fun v1739 hw H1740 e1741 => ?_) (fun e he H2 e2 => hE e he H2 (Same.trans S1731.b0 e2))⟩
      have S1742 := S1731.same e1741
      refine ⟨_, rfl, _, rfl, _, rfl, _, rfl, _, _, _, rfl, (S1742.bM _ _ h_p_fmt), G1732, _, _, fmt', rfl, S1742.sG, (hide_nil (S1742.bM _ _ h_p_fmt)), cW_callN hw (fun v1743 hw H1744 e1745 => ?_) trivial⟩
      have S1746 := S1742.same e1745
      refine ⟨rfl, rfl, G1732, _, _, _, _, _, _, rfl, S1746.sG, (Rp.hide_nil (rp_mk_list (S1746.bM _ _ h1723) (RpAll.mono S1746.bM d1724))), (Rp.hide_nil (rp_mk_list (S1746.sG _ _ (eG1733 _ _ (eG1717 _ _ (eG1670 _ _ (eG1656 _ _ h1649))))) (RpAll.mono S1746.sG (RpAll.mono eG1733 (RpAll.mono eG1717 (RpAll.mono eG1670 (RpAll.mono eG1656 d1650))))))), cW_call hw (fun v1747 hw H1748 a1750 vs1751 L1752 G1753 n1754 nb1755 nd1756 e1749 eG1757 sG1758 hn1759 ga1760 gL1761 h1762 w1763 => ?_) (fun e he H2 e2 => hE e he H2 (Same.trans S1746.b0 e2))⟩
      have fr1764 := S1746.free n1754
      have S1765 : Sep _ _ _ _ H1748 (a1750 :: (L1752 ++ (p1679 :: (L1696 ++ [])))) := Sep.steptree S1746 e1749 eG1757 sG1758 hn1759 (a1750 :: L1752) (all_cons ⟨n1754, ga1760, some_ne h1762⟩ (fun b hb => ⟨nb1755 b hb, gL1761 b hb, OwAll.there w1763 b hb⟩))
      refine ⟨_, rfl, rfl, rfl, G1753, _, _, rfl, S1765.sG, (Rp.hide_nil (rp_mk_list h1762 (OwAll.rpA w1763 (encO_L encO_I) S1765.sG))), cW_call hw (fun v1766 hw H1767 a1769 vs1770 L1771 G1772 n1773 nb1774 nd1775 e1768 eG1776 sG1777 hn1778 ga1779 gL1780 h1781 w1782 => ?_) (fun e he H2 e2 => hE e he H2 (Same.trans S1765.b0 e2))⟩
      have fr1783 := S1765.free n1773
      have S1784 : Sep _ _ _ _ H1767 (a1769 :: (L1771 ++ (a1750 :: (L1752 ++ (p1679 :: (L1696 ++ [])))))) := Sep.steptree S1765 e1768 eG1776 sG1777 hn1778 (a1769 :: L1771) (all_cons ⟨n1773, ga1779, some_ne h1781⟩ (fun b hb => ⟨nb1774 b hb, gL1780 b hb, OwAll.there w1782 b hb⟩))
      refine ⟨_, rfl, _, rfl, _, rfl, _, _, _, rfl, (S1784.bM _ _ h_p_fmt), G1772, _, _, fmt', rfl, S1784.sG, (hide_nil (S1784.bM _ _ h_p_fmt)), cW_callN hw (fun v1785 hw H1786 e1787 => ?_) trivial⟩
      have S1788 := S1784.same e1787
      have h1789 := (e1787 _ _ h1781)
      have w1790 : OwAll G1772 H1786 L1771 (vs1770) ((v1766 : (List (List Int))).map (oL oI)) := (OwAll.mono (Same.refl _) (keeps_same e1787) w1782)
      refine ⟨rfl, rfl, G1772, _, _, _, _, _, _, rfl, S1788.sG, (Rp.hide_nil (rp_mk_list h1789 (OwAll.rpA w1790 (encO_L encO_I) S1788.sG))), (Rp.hide_nil (rp_mk_list (S1788.sG _ _ (eG1776 _ _ (eG1757 _ _ (eG1733 _ _ (eG1717 _ _ h1677))))) (RpAll.mono S1788.sG (RpAll.mono eG1776 (RpAll.mono eG1757 (RpAll.mono eG1733 (RpAll.mono eG1717 d1678))))))), cW_call hw (fun v1791 hw H1792 a1794 vs1795 L1796 G1797 n1798 nb1799 nd1800 e1793 eG1801 sG1802 hn1803 ga1804 gL1805 h1806 w1807 => ?_) (fun e he H2 e2 => hE e he H2 (Same.trans S1788.b0 e2))⟩
      have fr1808 := S1788.free n1798
      have S1809 : Sep _ _ _ _ H1792 (a1794 :: (L1796 ++ (a1769 :: (L1771 ++ (a1750 :: (L1752 ++ (p1679 :: (L1696 ++ [])))))))) := Sep.steptree S1788 e1793 eG1801 sG1802 hn1803 (a1794 :: L1796) (all_cons ⟨n1798, ga1804, some_ne h1806⟩ (fun b hb => ⟨nb1799 b hb, gL1805 b hb, OwAll.there w1807 b hb⟩))
      have h1810 := (e1793 _ _ (e1787 _ _ (e1768 _ _ (e1749 _ _ (e1745 _ _ (e1741 _ _ (e1727 _ _ h1713)))))))
      refine ⟨_, rfl, (.inl ⟨rfl, _, SqL.of h1810⟩), _, rfl, rfl, rfl, G1797, _, _, rfl, S1809.sG, (Rp.hide_nil (rp_mk_list h1806 (OwAll.rpA w1807 (encO_L encO_I) S1809.sG))), cW_call hw (fun v1811 hw H1812 a1814 vs1815 L1816 G1817 n1818 nb1819 nd1820 e1813 eG1821 sG1822 hn1823 ga1824 gL1825 h1826 w1827 => ?_) (fun e he H2 e2 => hE e he H2 (Same.trans S1809.b0 e2))⟩
      have fr1828 := S1809.free n1818
      have S1829 : Sep _ _ _ _ H1812 (a1814 :: (L1816 ++ (a1794 :: (L1796 ++ (a1769 :: (L1771 ++ (a1750 :: (L1752 ++ (p1679 :: (L1696 ++ [])))))))))) := Sep.steptree S1809 e1813 eG1821 sG1822 hn1823 (a1814 :: L1816) (all_cons ⟨n1818, ga1824, some_ne h1826⟩ (fun b hb => ⟨nb1819 b hb, gL1825 b hb, OwAll.there w1827 b hb⟩))
      obtain ⟨g1830, hw⟩ := cW_grd hw
      have h1831 := (e1813 _ _ h1810)
      have w1832 : OwAll G1817 H1812 L1696 (vs1695) ((filtered_1694 : (List (List (List Int)))).map (oL (oL oI))) := (OwAll.mono (Same.trans (Same.trans (Same.trans (Same.trans eG1733 eG1757) eG1776) eG1801) eG1821) keeps_refl (OwAll.mono (Same.refl _) (keeps_same e1813) (OwAll.mono (Same.refl _) (keeps_same e1793) (OwAll.mono (Same.refl _) (keeps_same e1787) (OwAll.mono (Same.refl _) (keeps_same e1768) (OwAll.mono (Same.refl _) (keeps_same e1749) (OwAll.mono (Same.refl _) (keeps_same e1745) (OwAll.mono (Same.refl _) (keeps_same e1741) (OwAll.mono (Same.refl _) (keeps_same e1727) w1715)))))))))
      refine ⟨_, _, _, rfl, rfl, h1831, (app_len (OwAll.rpA w1832 (encO_L (encO_L encO_I)) S1829.sG) g1830), ?_⟩
      generalize g1833 : upd H1812 p1679 _ = H1834
      obtain ⟨x1835, h1836⟩ := gen_mut g1833
      have h1837 : H1834 p1679 = some (.lst (vs1695 ++ [V.ref a1814])) := h1836
      have S1838 := S1829.mut1 x1835 (.tail _ (List.mem_append_right _ (.tail _ (List.mem_append_right _ (.tail _ (List.mem_append_right _ (.tail _ (List.mem_append_right _ (.head _))))))))) h1837
      have w1839 : OwAll G1817 H1834 (L1696 ++ (a1814 :: L1816)) (vs1695 ++ [V.ref a1814]) (((filtered_1694) ++ [v1811] : (List (List (List Int)))).map (oL (oL oI))) := OwAll.mono (Same.refl _) (keeps_mut x1835 ((all_app ne1714 (all_cons (ne_of_none h1810 n1818).symm (new_ne2 nb1819 (S1809.ow _ (.tail _ (List.mem_append_right _ (.tail _ (List.mem_append_right _ (.tail _ (List.mem_append_right _ (.head _)))))))).2.1))) : ∀ b ∈ (L1696 ++ (a1814 :: L1816)), b ≠ p1679)) (OwAll.snocM w1832 (Ow.list h1826 w1827 (nd1820 : ∀ b ∈ L1816, b ≠ a1814)) ((fun b hb => (nm_cons ((there_ne (fun b_ hb_ => (S1809.ow b_ (((fun b hb => (.tail _ (List.mem_append_right _ (.tail _ (List.mem_append_right _ (.tail _ (List.mem_append_right _ (.tail _ (List.mem_append_left _ hb))))))))) : ∀ b ∈ L1696, b ∈ (a1794 :: (L1796 ++ (a1769 :: (L1771 ++ (a1750 :: (L1752 ++ (p1679 :: (L1696 ++ []))))))))) b_ hb_)).2.1) n1818) b hb) ((nl_symm (new_nl nb1819 (fun b_ hb_ => (S1809.ow b_ (((fun b hb => (.tail _ (List.mem_append_right _ (.tail _ (List.mem_append_right _ (.tail _ (List.mem_append_right _ (.tail _ (List.mem_append_left _ hb))))))))) : ∀ b ∈ L1696, b ∈ (a1794 :: (L1796 ++ (a1769 :: (L1771 ++ (a1750 :: (L1752 ++ (p1679 :: (L1696 ++ []))))))))) b_ hb_)).2.1))) b hb))) : ∀ b ∈ L1696, b ∉ (a1814 :: L1816)))
      have hw := cW_bnd hw
      have hw := cW_ok hw
      have hw := hK1737 _ hw
      exact ⟨((filtered_1694) ++ [v1811]), (vs1695 ++ [V.ref a1814]), (L1696 ++ (a1814 :: L1816)), _, _, _, _, _, _, rfl, (Same.trans (Same.trans (Same.trans (Same.trans (Same.trans eG1717 eG1733) eG1757) eG1776) eG1801) eG1821), (S1838.sub (all_cons (.tail _ (List.mem_append_right _ (.tail _ (List.mem_append_right _ (.tail _ (List.mem_append_right _ (.tail _ (List.mem_append_right _ (.head _))))))))) (all_app (all_app ((fun b hb => (.tail _ (List.mem_append_right _ (.tail _ (List.mem_append_right _ (.tail _ (List.mem_append_right _ (.tail _ (List.mem_append_right _ (.tail _ (List.mem_append_left _ hb))))))))))) : ∀ b ∈ L1696, b ∈ (a1814 :: (L1816 ++ (a1794 :: (L1796 ++ (a1769 :: (L1771 ++ (a1750 :: (L1752 ++ (p1679 :: (L1696 ++ []))))))))))) (all_cons (.head _) ((fun b hb => (.tail _ (List.mem_append_left _ hb))) : ∀ b ∈ L1816, b ∈ (a1814 :: (L1816 ++ (a1794 :: (L1796 ++ (a1769 :: (L1771 ++ (a1750 :: (L1752 ++ (p1679 :: (L1696 ++ []))))))))))))) all_nil))), h1837, (all_app ne1714 (all_cons (ne_of_none h1810 n1818).symm (new_ne2 nb1819 (S1809.ow _ (.tail _ (List.mem_append_right _ (.tail _ (List.mem_append_right _ (.tail _ (List.mem_append_right _ (.head _)))))))).2.1))), w1839, hw⟩
    · intro σ H1841 hw
      obtain ⟨filtered_1694, vs1695, L1696, u1697, u1698, u1699, u1700, u1701, G1846, rfl, eG1847, S1842, h1843, ne1844, w1845, hw⟩ := hw
      have hw := hK1693 _ (cW_forS0 (by rw [enumL_len]; exact (by rw [d1632.len, List.length_map])) hw)
      have hw : cW (F_deblock_r1  (filtered_1694)) _ EE := hw
      unfold F_deblock_r1 at hw
      refine ⟨_, rfl, ?_⟩
      have hw := cW_ok hw
      exact hK0 _ hw _ _ _ _ _ fr1686 ((fun b hb => Sep.h0 S1842 (((fun b hb => (.tail _ (List.mem_append_left _ hb))) : ∀ b ∈ L1696, b ∈ (p1679 :: (L1696 ++ []))) b hb) nm_nil) : ∀ b ∈ L1696, H b = none) (ne1844 : ∀ b ∈ L1696, b ≠ p1679) S1842.b0 S1842.g0 S1842.sG S1842.gn (S1842.ow _ (.head _)).1 ((fun b hb => (S1842.ow b (((fun b hb => (.tail _ (List.mem_append_left _ hb))) : ∀ b ∈ L1696, b ∈ (p1679 :: (L1696 ++ []))) b hb)).1) : ∀ b ∈ L1696, G1846 b = none) h1843 w1845

abbrev N__law_cell : List Str := ["script", "k"]
theorem sc__law_cell : FnScope N__law_cell ["script", "k"] (defScope s__law_cell) := ⟨rfl, rfl, rfl, by decide +kernel, rfl, by decide +kernel, by decide +kernel⟩
theorem ok__law_cell (D : DefX K mg "_law_cell" s__law_cell ["script", "k"] pats__law_cell) (T : Txt w K mg AD)  : CalX P w K mg base 1 "_law_cell" (sp__law_cell K AD) pats__law_cell := by
  refine D.ok sc__law_cell (fun vs H Q E h => ?_) (fun f cdv A_ outer s H vs Q E hr h => ?_)
  · obtain ⟨G, a_script, script', k', rfl, _⟩ := h
    rfl
  · obtain ⟨G, a_script, script', k', rfl, sG, q_script, hw⟩ := h
    refine ⟨_, (pss_cons (ps_if (pt_cmp (pc_lt (pv 1) (pe_callB (call_lenLiK (K := K)) (by rfl) T.b_len (by decide +kernel) (pa_cons (pv 0) pa_nil)))) (pss_one (ps_ret (pe_callB call_abs (by rfl) T.b_abs (by decide +kernel) (pa_cons (pe_callTy call_int1 (by rfl) T.b_int (by decide +kernel) (pa_cons (pe_ix (ix_listK (K := K)) (pv 0) (pv 1) (fun _ _ => rfl)) pa_nil)) pa_nil)))) pss_nil)
      (pss_one (ps_ret pe_int))), ?_⟩
    obtain ⟨KK, EE, hK0, hE, hw⟩ := cW_gen hw
    have S0 := Sep.startG sG
    unfold F__law_cell at hw
    refine ⟨_, rfl, _, rfl, _, _, rfl, (S0.b0.seq q_script), _, _, rfl, rfl, _, rfl, ?_⟩
    refine iteD (fun c1849 => ?_) (fun c1849 => ?_)
    · have hw := cW_pos c1849 hw
      obtain ⟨g1850, hw⟩ := cW_grd hw
      refine ⟨_, rfl, _, rfl, _, _, _, _, rfl, rfl, (S0.b0.seq q_script), (atI_map g1850), .inl ⟨_, rfl, ?_⟩⟩
      refine ⟨_, rfl, ?_⟩
      have hw := cW_ok hw
      exact hK0 _ hw
    · have hw := cW_neg c1849 hw
      have hw := cW_ok hw
      exact hK0 _ hw

abbrev N__law_limit : List Str := ["first", "second", "edge", "mean"]
theorem sc__law_limit : FnScope N__law_limit ["first", "second", "edge"] (defScope s__law_limit) := ⟨rfl, rfl, rfl, by decide +kernel, rfl, by decide +kernel, by decide +kernel⟩
theorem ok__law_limit (D : DefX K mg "_law_limit" s__law_limit ["first", "second", "edge"] pats__law_limit) (T : Txt w K mg AD)  : CalX P w K mg base 1 "_law_limit" (sp__law_limit K AD) pats__law_limit := by
  refine D.ok sc__law_limit (fun vs H Q E h => ?_) (fun f cdv A_ outer s H vs Q E hr h => ?_)
  · obtain ⟨G, v_first, first', v_second, second', edge', rfl, _⟩ := h
    rfl
  · obtain ⟨G, v_first, first', v_second, second', edge', rfl, sG, r_first, r_second, hw⟩ := h
    refine ⟨_, (pss_cons (ps_if (PW.pt (pw_and (pt_val (pe_ix (ix_tupK (K := K)) (pv 0) pe_int (fun _ _ => rfl))) (pw_and1 (pt_val (pe_ix (ix_tupK (K := K)) (pv 1) pe_int (fun _ _ => rfl)))))) (pss_one (ps_ret pe_int)) pss_nil)
      (pss_cons (ps_set (i := 3) sc__law_limit.nd rfl (Or.inl rfl) (pe_op op_fdivW (pe_op op_add (pe_ix (ix_tupK (K := K)) (pv 0) pe_int (fun _ _ => rfl)) (pe_ix (ix_tupK (K := K)) (pv 1) pe_int (fun _ _ => rfl))) pe_int))
      (pss_one (ps_ret (pe_op op_fdivW (pe_op op_mul (pe_op op_add (pe_op op_add pe_int (pv 3)) (pe_op op_fdivW (pe_op op_mul (pv 3) (pv 3)) pe_int)) (pe_op op_add pe_int (pv 2))) pe_int))))), ?_⟩
    obtain ⟨KK, EE, hK0, hE, hw⟩ := cW_gen hw
    have S0 := Sep.startG sG
    unfold F__law_limit at hw
    obtain ⟨a1851, v1853, v1854, rfl, h1852, r1855, r1856⟩ := rp_tup2 r_first
    obtain rfl := rp_int r1855
    obtain rfl := rp_bool r1856
    obtain ⟨a1857, v1859, v1860, rfl, h1858, r1861, r1862⟩ := rp_tup2 r_second
    obtain rfl := rp_int r1861
    obtain rfl := rp_bool r1862
    refine ⟨_, rfl, _, _, _, _, rfl, rfl, (SqT.of (S0.bM _ _ h1852)), rfl, _, rfl, ?_⟩
    refine iteB (fun c1863 => ?_) (fun c1863 => ?_)
    · have hw := cW_pos c1863 hw
      refine ⟨_, rfl, _, _, _, _, rfl, rfl, (SqT.of (S0.bM _ _ h1858)), rfl, _, rfl, ?_⟩
      refine iteB (fun c1864 => ?_) (fun c1864 => ?_)
      · have hw := cW_pos c1864 hw
        have hw := cW_ok hw
        exact hK0 _ hw
      · have hw := cW_negB c1864 hw
        refine ⟨_, rfl, _, _, _, _, rfl, rfl, (SqT.of (S0.bM _ _ h1852)), rfl, _, rfl, _, _, _, _, rfl, rfl, (SqT.of (S0.bM _ _ h1858)), rfl, _, _, rfl, rfl, _, _, rfl, rfl, (divW_lit (by decide) (by decide)), ?_⟩
        have hw := cW_bnd hw
        obtain ⟨g1866, hw⟩ := cW_grd hw
        obtain ⟨g1867, hw⟩ := cW_grd hw
        refine ⟨_, rfl, _, _, rfl, rfl, _, rfl, _, rfl, _, _, rfl, rfl, g1866, _, _, rfl, rfl, (divW_lit (by decide) (by decide)), _, _, rfl, rfl, _, rfl, _, _, rfl, rfl, _, _, rfl, rfl, g1867, _, _, rfl, rfl, (divW_lit (by decide) (by decide)), ?_⟩
        have hw := cW_ok hw
        exact hK0 _ hw
    · have hw := cW_negB c1863 hw
      refine iteF ?_
      refine ⟨_, rfl, _, _, _, _, rfl, rfl, (SqT.of (S0.bM _ _ h1852)), rfl, _, rfl, _, _, _, _, rfl, rfl, (SqT.of (S0.bM _ _ h1858)), rfl, _, _, rfl, rfl, _, _, rfl, rfl, (divW_lit (by decide) (by decide)), ?_⟩
      have hw := cW_bnd hw
      obtain ⟨g1869, hw⟩ := cW_grd hw
      obtain ⟨g1870, hw⟩ := cW_grd hw
      refine ⟨_, rfl, _, _, rfl, rfl, _, rfl, _, rfl, _, _, rfl, rfl, g1869, _, _, rfl, rfl, (divW_lit (by decide) (by decide)), _, _, rfl, rfl, _, rfl, _, _, rfl, rfl, _, _, rfl, rfl, g1870, _, _, rfl, rfl, (divW_lit (by decide) (by decide)), ?_⟩
      have hw := cW_ok hw
      exact hK0 _ hw

abbrev N__law_pair : List Str := ["a1", "a0", "b0", "b1", "limit", "top", "change"]
theorem sc__law_pair : FnScope N__law_pair ["a1", "a0", "b0", "b1", "limit", "top"] (defScope s__law_pair) := ⟨rfl, rfl, rfl, by decide +kernel, rfl, by decide +kernel, by decide +kernel⟩
theorem ok__law_pair (D : DefX K mg "_law_pair" s__law_pair ["a1", "a0", "b0", "b1", "limit", "top"] pats__law_pair) (T : Txt w K mg AD)  : CalX P w K mg base 1 "_law_pair" (sp__law_pair K AD) pats__law_pair := by
  refine D.ok sc__law_pair (fun vs H Q E h => ?_) (fun f cdv A_ outer s H vs Q E hr h => ?_)
  · obtain ⟨G, a1', a0', b0', b1', limit', top', rfl, _⟩ := h
    rfl
  · obtain ⟨G, a1', a0', b0', b1', limit', top', rfl, sG, hw⟩ := h
    refine ⟨_, (pss_cons (ps_if (PW.pt (pw_or (pt_cmp (pc_ge (pe_callB call_abs (by rfl) T.b_abs (by decide +kernel) (pa_cons (pe_op op_sub (pv 0) (pv 1)) pa_nil)) (pv 4))) (pw_or (pt_cmp (pc_ge (pe_callB call_abs (by rfl) T.b_abs (by decide +kernel) (pa_cons (pe_op op_sub (pv 3) (pv 2)) pa_nil)) (pv 4))) (pw_or1 (pt_cmp (pc_ge (pe_callB call_abs (by rfl) T.b_abs (by decide +kernel) (pa_cons (pe_op op_sub (pv 1) (pv 2)) pa_nil)) (pe_op op_mul pe_int (pv 4)))))))) (pss_one (ps_ret (pe_tup (pa_cons (pv 1) (pa_cons (pv 2) pa_nil))))) pss_nil)
      (pss_cons (ps_set (i := 6) sc__law_pair.nd rfl (Or.inl rfl) (pe_callB (call_max2 rfl) (by rfl) T.b_max (by decide +kernel) (pa_cons (pe_op op_sub pe_int (pv 4)) (pa_cons (pe_callB (call_min2 rfl) (by rfl) T.b_min (by decide +kernel) (pa_cons (pv 4) (pa_cons (pe_op op_shr (pe_op op_add (pe_op op_sub (pe_op op_add (pe_op op_mul pe_int (pe_op op_sub (pv 2) (pv 1))) (pv 0)) (pv 3)) pe_int) pe_int) pa_nil))) pa_nil))))
      (pss_one (ps_ret (pe_tup (pa_cons (pe_callB (call_max2 rfl) (by rfl) T.b_max (by decide +kernel) (pa_cons pe_int (pa_cons (pe_callB (call_min2 rfl) (by rfl) T.b_min (by decide +kernel) (pa_cons (pv 5) (pa_cons (pe_op op_add (pv 1) (pv 6)) pa_nil))) pa_nil))) (pa_cons (pe_callB (call_max2 rfl) (by rfl) T.b_max (by decide +kernel) (pa_cons pe_int (pa_cons (pe_callB (call_min2 rfl) (by rfl) T.b_min (by decide +kernel) (pa_cons (pv 5) (pa_cons (pe_op op_sub (pv 2) (pv 6)) pa_nil))) pa_nil))) pa_nil))))))), ?_⟩
    obtain ⟨KK, EE, hK0, hE, hw⟩ := cW_gen hw
    have S0 := Sep.startG sG
    unfold F__law_pair at hw
    refine ⟨_, rfl, _, rfl, _, _, rfl, rfl, _, rfl, _, rfl, _, _, rfl, rfl, _, rfl, ?_⟩
    refine iteD (fun c1871 => ?_) (fun c1871 => ?_)
    · have hw := cW_pos c1871 hw
      refine iteT ?_
      refine ⟨_, rfl, _, rfl, (by show 2 ≤ sizeLine; decide), fun p1872 n1873 => ?_⟩
      generalize g1874 : upd H p1872 _ = H1875
      obtain ⟨e1876, h1877⟩ := gen_new n1873 g1874
      have h1878 : H1875 p1872 = some (.tup [V.int (a0'), V.int (b0')]) := h1877
      have fr1879 := S0.free n1873
      obtain ⟨G1881, eG1882, hg1883, S1880⟩ := S0.grow n1873 e1876 h1878 fr1879
      have hw := cW_ok hw
      exact hK0 _ hw _ _ _ S1880.b0 S1880.g0 S1880.sG S1880.gn (rp_mk2 hg1883 (.int _) (.int _))
    · have hw := cW_neg c1871 hw
      refine ⟨_, rfl, _, rfl, _, _, rfl, rfl, _, rfl, _, rfl, _, _, rfl, rfl, _, rfl, ?_⟩
      refine iteD (fun c1884 => ?_) (fun c1884 => ?_)
      · have hw := cW_pos c1884 hw
        refine iteT ?_
        refine ⟨_, rfl, _, rfl, (by show 2 ≤ sizeLine; decide), fun p1885 n1886 => ?_⟩
        generalize g1887 : upd H p1885 _ = H1888
        obtain ⟨e1889, h1890⟩ := gen_new n1886 g1887
        have h1891 : H1888 p1885 = some (.tup [V.int (a0'), V.int (b0')]) := h1890
        have fr1892 := S0.free n1886
        obtain ⟨G1894, eG1895, hg1896, S1893⟩ := S0.grow n1886 e1889 h1891 fr1892
        have hw := cW_ok hw
        exact hK0 _ hw _ _ _ S1893.b0 S1893.g0 S1893.sG S1893.gn (rp_mk2 hg1896 (.int _) (.int _))
      · have hw := cW_neg c1884 hw
        refine ⟨_, rfl, _, rfl, _, _, rfl, rfl, _, rfl, _, rfl, _, _, rfl, rfl, (.inl ⟨by decide, by decide⟩), _, _, rfl, rfl, _, rfl, ?_⟩
        refine iteD (fun c1897 => ?_) (fun c1897 => ?_)
        · have hw := cW_pos c1897 hw
          refine ⟨_, rfl, _, rfl, (by show 2 ≤ sizeLine; decide), fun p1898 n1899 => ?_⟩
          generalize g1900 : upd H p1898 _ = H1901
          obtain ⟨e1902, h1903⟩ := gen_new n1899 g1900
          have h1904 : H1901 p1898 = some (.tup [V.int (a0'), V.int (b0')]) := h1903
          have fr1905 := S0.free n1899
          obtain ⟨G1907, eG1908, hg1909, S1906⟩ := S0.grow n1899 e1902 h1904 fr1905
          have hw := cW_ok hw
          exact hK0 _ hw _ _ _ S1906.b0 S1906.g0 S1906.sG S1906.gn (rp_mk2 hg1909 (.int _) (.int _))
        · have hw := cW_neg c1897 hw
          refine ⟨_, rfl, _, _, rfl, rfl, _, rfl, _, rfl, _, rfl, _, _, rfl, rfl, _, _, rfl, rfl, (.inl ⟨by decide, by decide⟩), _, rfl, _, _, rfl, rfl, _, rfl, _, _, rfl, rfl, _, _, rfl, rfl, _, _, rfl, rfl, (show (0 : Int) ≤ 3 by decide), _, _, rfl, _, _, rfl, ?_⟩
          have hw := cW_bnd hw
          refine ⟨_, rfl, _, rfl, _, rfl, _, _, rfl, rfl, _, _, rfl, _, _, rfl, _, rfl, _, rfl, _, rfl, _, _, rfl, rfl, _, _, rfl, _, _, rfl, (by show 2 ≤ sizeLine; decide), fun p1911 n1912 => ?_⟩
          generalize g1913 : upd H p1911 _ = H1914
          obtain ⟨e1915, h1916⟩ := gen_new n1912 g1913
          have h1917 : H1914 p1911 = some (.tup [V.int ((if (if (a0' + (if (if (((((3 * (b0' - a0')) + a1') - b1') + 4) / 8) < limit' then (((((3 * (b0' - a0')) + a1') - b1') + 4) / 8) else limit') > (0 - limit') then (if (((((3 * (b0' - a0')) + a1') - b1') + 4) / 8) < limit' then (((((3 * (b0' - a0')) + a1') - b1') + 4) / 8) else limit') else (0 - limit'))) < top' then (a0' + (if (if (((((3 * (b0' - a0')) + a1') - b1') + 4) / 8) < limit' then (((((3 * (b0' - a0')) + a1') - b1') + 4) / 8) else limit') > (0 - limit') then (if (((((3 * (b0' - a0')) + a1') - b1') + 4) / 8) < limit' then (((((3 * (b0' - a0')) + a1') - b1') + 4) / 8) else limit') else (0 - limit'))) else top') > 0 then (if (a0' + (if (if (((((3 * (b0' - a0')) + a1') - b1') + 4) / 8) < limit' then (((((3 * (b0' - a0')) + a1') - b1') + 4) / 8) else limit') > (0 - limit') then (if (((((3 * (b0' - a0')) + a1') - b1') + 4) / 8) < limit' then (((((3 * (b0' - a0')) + a1') - b1') + 4) / 8) else limit') else (0 - limit'))) < top' then (a0' + (if (if (((((3 * (b0' - a0')) + a1') - b1') + 4) / 8) < limit' then (((((3 * (b0' - a0')) + a1') - b1') + 4) / 8) else limit') > (0 - limit') then (if (((((3 * (b0' - a0')) + a1') - b1') + 4) / 8) < limit' then (((((3 * (b0' - a0')) + a1') - b1') + 4) / 8) else limit') else (0 - limit'))) else top') else 0)), V.int ((if (if (b0' - (if (if (((((3 * (b0' - a0')) + a1') - b1') + 4) / 8) < limit' then (((((3 * (b0' - a0')) + a1') - b1') + 4) / 8) else limit') > (0 - limit') then (if (((((3 * (b0' - a0')) + a1') - b1') + 4) / 8) < limit' then (((((3 * (b0' - a0')) + a1') - b1') + 4) / 8) else limit') else (0 - limit'))) < top' then (b0' - (if (if (((((3 * (b0' - a0')) + a1') - b1') + 4) / 8) < limit' then (((((3 * (b0' - a0')) + a1') - b1') + 4) / 8) else limit') > (0 - limit') then (if (((((3 * (b0' - a0')) + a1') - b1') + 4) / 8) < limit' then (((((3 * (b0' - a0')) + a1') - b1') + 4) / 8) else limit') else (0 - limit'))) else top') > 0 then (if (b0' - (if (if (((((3 * (b0' - a0')) + a1') - b1') + 4) / 8) < limit' then (((((3 * (b0' - a0')) + a1') - b1') + 4) / 8) else limit') > (0 - limit') then (if (((((3 * (b0' - a0')) + a1') - b1') + 4) / 8) < limit' then (((((3 * (b0' - a0')) + a1') - b1') + 4) / 8) else limit') else (0 - limit'))) < top' then (b0' - (if (if (((((3 * (b0' - a0')) + a1') - b1') + 4) / 8) < limit' then (((((3 * (b0' - a0')) + a1') - b1') + 4) / 8) else limit') > (0 - limit') then (if (((((3 * (b0' - a0')) + a1') - b1') + 4) / 8) < limit' then (((((3 * (b0' - a0')) + a1') - b1') + 4) / 8) else limit') else (0 - limit'))) else top') else 0))]) := h1916
          have fr1918 := S0.free n1912
          obtain ⟨G1920, eG1921, hg1922, S1919⟩ := S0.grow n1912 e1915 h1917 fr1918
          have hw := cW_ok hw
          exact hK0 _ hw _ _ _ S1919.b0 S1919.g0 S1919.sG S1919.gn (rp_mk2 hg1922 (.int _) (.int _))

abbrev N__law_columns : List Str := ["rows", "blocks", "size", "edge", "top", "x", "y", "line", "limit", "pair"]
theorem sc__law_columns : FnScope N__law_columns ["rows", "blocks", "size", "edge", "top"] (defScope s__law_columns) := ⟨rfl, rfl, rfl, by decide +kernel, rfl, by decide +kernel, by decide +kernel⟩
theorem ok__law_columns (D : DefX K mg "_law_columns" s__law_columns ["rows", "blocks", "size", "edge", "top"] pats__law_columns) (T : Txt w K mg AD) (c__law_limit : CalX P w K mg base 1 "_law_limit" (sp__law_limit K AD) pats__law_limit) (c__law_pair : CalX P w K mg base 1 "_law_pair" (sp__law_pair K AD) pats__law_pair) : CalX P w K mg base 2 "_law_columns" (sp__law_columns K AD) pats__law_columns := by
  refine D.ok sc__law_columns (fun vs H Q E h => ?_) (fun f cdv A_ outer s H vs Q E hr h => ?_)
  · obtain ⟨G, a_rows, vs_rows, L_rows, rows', v_blocks, blocks', size', edge', top', rfl, _⟩ := h
    rfl
  · obtain ⟨G, a_rows, vs_rows, L_rows, rows', v_blocks, blocks', size', edge', top', rfl, sG, gM, h_a_rows, w_rows, nw_rows_0, r_blocks, hw⟩ := h
    refine ⟨_, (pss_one (ps_for (passes_of rfl) rfl (pi_range3 rfl T.b_range (pa_cons (pv 2) (pa_cons (pe_callB (call_lenLiK (K := K)) (by rfl) T.b_len (by decide +kernel) (pa_cons (pe_ix (ix_listK (K := K)) (pv 0) pe_int (fun _ _ => rfl)) pa_nil)) (pa_cons (pv 2) pa_nil)))) (pg_name (i := 5) sc__law_columns.nd rfl (Or.inl rfl)) (pss_one (ps_for (passes_of rfl) rfl (pi_range1 rfl T.b_range (pa_cons (pe_callB (call_lenLK (K := K)) (by rfl) T.b_len (by decide +kernel) (pa_cons (pv 0) pa_nil)) pa_nil)) (pg_name (i := 6) sc__law_columns.nd rfl (Or.inl rfl)) (pss_cons (ps_set (i := 7) sc__law_columns.nd rfl (Or.inl rfl) (pe_ix (ix_listK (K := K)) (pv 0) (pv 6) (fun _ _ => rfl)))
      (pss_cons (ps_set (i := 8) sc__law_columns.nd rfl (Or.inl rfl) (vx_callX c__law_limit pat__law_limit_0 (.head _) hr (by decide) (takes_of rfl rfl rfl rfl) rfl (pa_cons (pe_ix (ix_listK (K := K)) (pe_ix (ix_listK (K := K)) (pv 1) (pe_op op_fdivW (pv 6) (pv 2)) (fun _ _ => rfl)) (pe_op op_sub (pe_op op_fdivW (pv 5) (pv 2)) pe_int) (fun _ _ => rfl)) (pa_cons (pe_ix (ix_listK (K := K)) (pe_ix (ix_listK (K := K)) (pv 1) (pe_op op_fdivW (pv 6) (pv 2)) (fun _ _ => rfl)) (pe_op op_fdivW (pv 5) (pv 2)) (fun _ _ => rfl)) (pa_cons (pv 3) pa_nil))) pk_nil))
      (pss_cons (ps_set (i := 9) sc__law_columns.nd rfl (Or.inl rfl) (vx_callX c__law_pair pat__law_pair_0 (.head _) hr (by decide) (takes_of rfl rfl rfl rfl) rfl (pa_cons (pe_ix (ix_listK (K := K)) (pv 7) (pe_op op_sub (pv 5) pe_int) (fun _ _ => rfl)) (pa_cons (pe_ix (ix_listK (K := K)) (pv 7) (pe_op op_sub (pv 5) pe_int) (fun _ _ => rfl)) (pa_cons (pe_ix (ix_listK (K := K)) (pv 7) (pv 5) (fun _ _ => rfl)) (pa_cons (pe_ix (ix_listK (K := K)) (pv 7) (pe_op op_add (pv 5) pe_int) (fun _ _ => rfl)) (pa_cons (pv 8) (pa_cons (pv 4) pa_nil)))))) pk_nil))
      (pss_cons (ps_asg (pe_ix (ix_tupK (K := K)) (pv 9) pe_int (fun _ _ => rfl)) (pg_sub (pv 7) (pe_op op_sub (pv 5) pe_int) set_list))
      (pss_one (ps_asg (pe_ix (ix_tupK (K := K)) (pv 9) pe_int (fun _ _ => rfl)) (pg_sub (pv 7) (pv 5) set_list))))))))))), ?_⟩
    obtain ⟨KK, EE, hK0, hE, hw⟩ := cW_gen hw
    have S0 := Sep.startM (M := (a_rows :: (L_rows ++ []))) sG (all_cons (some_ne h_a_rows) (all_app (OwAll.there w_rows) all_nil)) gM
    unfold F__law_columns at hw
    obtain ⟨a1923, vs1924, rfl, h1925, d1926⟩ := rp_list r_blocks
    obtain ⟨g1927, hw⟩ := cW_grd hw
    obtain ⟨v1928, L1929, a1930, w1931, hs1932, up1933, gr1934⟩ := OwAll.partM (k := 0) w_rows g1927
    obtain ⟨b1935, rfl, rfl, h1936⟩ := Ow.toInts w1931
    obtain ⟨g1937, hw⟩ := cW_grd hw
    obtain ⟨K1942, hK1943, hw⟩ := cW_push hw
    refine ⟨_, rfl, _, rfl, _, _, _, _, rfl, rfl, (SqL.of h_a_rows), a1930, _, _, rfl, (SqL.of h1936), _, rfl, _, _, _, _, rfl, (RgC.pos g1937), for_rangeC (lo := size') (c := size') (n := stepN (size') (((((itD (rows') (0))) : (List Int)).length : Int)) (size')) (fun i σ H' => ∃ (rows_1944 : (List (List Int))) (vs1945 : List V) (L1946 : List Addr) (u1947 : Option V) (u1948 : Option V) (u1949 : Option V) (u1950 : Option V) (u1951 : Option V) (G' : Hp), σ = [some (V.ref a_rows), some (V.ref a1923), some (V.int (size')), some (V.int (edge')), some (V.int (top')), u1947, u1948, u1949, u1950, u1951] ∧ Same G G' ∧ Sep (a_rows :: (L_rows ++ [])) H G G' H' (a_rows :: (L1946 ++ [])) ∧ H' a_rows = some (.lst (vs1945)) ∧ (∀ b ∈ L1946, b ≠ a_rows) ∧ OwAll G' H' L1946 (vs1945) ((rows_1944 : (List (List Int))).map (oL oI)) ∧ (∀ b ∈ L1946, b ∈ L_rows ∨ H b = none) ∧ cW (forS (List.drop i (rngP (size') (size') (stepN (size') (((((itD (rows') (0))) : (List Int)).length : Int)) (size')))) rows_1944 (fun s x => F__law_columns_b1 (blocks') (size') (edge') (top') s x)) K1942 EE) ?_ ?_ ?_⟩
    · exact ⟨(rows'), (vs_rows), L_rows, _, _, _, _, _, _, rfl, (Same.refl _), (S0.sub (all_cons (.head _) (all_app ((fun b hb => (.tail _ (List.mem_append_left _ hb))) : ∀ b ∈ L_rows, b ∈ (a_rows :: (L_rows ++ []))) all_nil))), h_a_rows, nw_rows_0, w_rows, ((fun b hb => .inl hb) : ∀ b ∈ L_rows, b ∈ L_rows ∨ H b = none), hw⟩
    · intro i σ H1952 hi hw
      obtain ⟨rows_1944, vs1945, L1946, u1947, u1948, u1949, u1950, u1951, G1958, rfl, eG1959, S1953, h1954, ne1955, w1956, hs1957, hw⟩ := hw
      have hw := cW_forS (rngP_get hi) hw
      generalize (size' + ((i : Nat) : Int) * (size')) = x1960 at hw ⊢
      have hw : cW (F__law_columns_b1 (blocks') (size') (edge') (top') (rows_1944) (x1960)) _ EE := hw
      unfold F__law_columns_b1 at hw
      obtain ⟨K1962, hK1963, hw⟩ := cW_name hw
      obtain ⟨g1965, hw⟩ := cW_grd hw
      obtain ⟨K1971, hK1972, hw⟩ := cW_push hw
      refine ⟨_, rfl, _, _, _, rfl, (SqL.of h1954), (by rw [(OwAll.rpA w1956 (encO_L encO_I) S1953.sG).len, List.length_map]), _, rfl, g1965.1, g1965.2, for_range (lo := 0) (n := Int.toNat ((((rows_1944) : (List (List Int))).length : Int))) (fun i σ H' => ∃ (rows_1973 : (List (List Int))) (vs1974 : List V) (L1975 : List Addr) (u1976 : Option V) (u1977 : Option V) (u1978 : Option V) (u1979 : Option V) (G' : Hp), σ = [some (V.ref a_rows), some (V.ref a1923), some (V.int (size')), some (V.int (edge')), some (V.int (top')), some (V.int (x1960)), u1976, u1977, u1978, u1979] ∧ Same G1958 G' ∧ Sep (a_rows :: (L_rows ++ [])) H G G' H' (a_rows :: (L1975 ++ [])) ∧ H' a_rows = some (.lst (vs1974)) ∧ (∀ b ∈ L1975, b ≠ a_rows) ∧ OwAll G' H' L1975 (vs1974) ((rows_1973 : (List (List Int))).map (oL oI)) ∧ (∀ b ∈ L1975, b ∈ L_rows ∨ H b = none) ∧ cW (forS (List.drop i (rng (0) (Int.toNat ((((rows_1944) : (List (List Int))).length : Int))))) rows_1973 (fun s x => F__law_columns_b2 (blocks') (size') (edge') (top') (x1960) s x)) K1971 EE) ?_ ?_ ?_⟩
      · exact ⟨(rows_1944), (vs1945), L1946, _, _, _, _, _, rfl, (Same.refl _), (S1953.sub (all_cons (.head _) (all_app ((fun b hb => (.tail _ (List.mem_append_left _ hb))) : ∀ b ∈ L1946, b ∈ (a_rows :: (L1946 ++ []))) all_nil))), h1954, ne1955, w1956, ((fun b hb => (hs1957 b hb).elim (((fun b hb => .inl hb) : ∀ b ∈ L_rows, b ∈ L_rows ∨ H b = none) b) (fun z => .inr (S0.free z))) : ∀ b ∈ L1946, b ∈ L_rows ∨ H b = none), hw⟩
      · intro i σ H1980 hi hw
        obtain ⟨rows_1973, vs1974, L1975, u1976, u1977, u1978, u1979, G1986, rfl, eG1987, S1981, h1982, ne1983, w1984, hs1985, hw⟩ := hw
        have hw := cW_forS (rng_get hi) hw
        generalize (0 + (i : Int)) = x1988 at hw ⊢
        have hw : cW (F__law_columns_b2 (blocks') (size') (edge') (top') (x1960) (rows_1973) (x1988)) _ EE := hw
        unfold F__law_columns_b2 at hw
        obtain ⟨K1990, hK1991, hw⟩ := cW_name hw
        obtain ⟨g1993, hw⟩ := cW_grd hw
        obtain ⟨v1994, L1995, a1996, w1997, hs1998, up1999, gr2000⟩ := OwAll.partM (k := x1988) w1984 g1993
        obtain ⟨b2001, rfl, rfl, h2002⟩ := Ow.toInts w1997
        obtain ⟨g2003, hw⟩ := cW_grd hw
        obtain ⟨g2004, hw⟩ := cW_grd hw
        obtain ⟨v2005, a2006, r2007⟩ := RpAll.ixD (k := (x1988 / size')) d1926 g2004
        obtain ⟨a2008, vs2009, rfl, h2010, d2011⟩ := rp_list r2007
        obtain ⟨g2012, hw⟩ := cW_grd hw
        obtain ⟨g2013, hw⟩ := cW_grd hw
        obtain ⟨v2014, a2015, r2016⟩ := RpAll.ixD (k := ((x1960 / size') - 1)) d2011 g2013
        obtain ⟨a2017, v2019, v2020, rfl, h2018, r2021, r2022⟩ := rp_tup2 r2016
        obtain rfl := rp_int r2021
        obtain rfl := rp_bool r2022
        obtain ⟨g2023, hw⟩ := cW_grd hw
        obtain ⟨g2024, hw⟩ := cW_grd hw
        obtain ⟨v2025, a2026, r2027⟩ := RpAll.ixD (k := (x1988 / size')) d1926 g2024
        obtain ⟨a2028, vs2029, rfl, h2030, d2031⟩ := rp_list r2027
        obtain ⟨g2032, hw⟩ := cW_grd hw
        obtain ⟨g2033, hw⟩ := cW_grd hw
        obtain ⟨v2034, a2035, r2036⟩ := RpAll.ixD (k := (x1960 / size')) d2031 g2033
        obtain ⟨a2037, v2039, v2040, rfl, h2038, r2041, r2042⟩ := rp_tup2 r2036
        obtain rfl := rp_int r2041
        obtain rfl := rp_bool r2042
        refine ⟨_, rfl, _, rfl, _, _, _, _, rfl, rfl, (SqL.of h1982), a1996, _, rfl, _, rfl, _, rfl, _, _, rfl, rfl, (divW_small g2003.1 g2003.2), _, _, _, _, rfl, rfl, (SqL.of (S1981.bM _ _ h1925)), a2006, _, rfl, _, rfl, _, _, rfl, rfl, (divW_small g2012.1 g2012.2), _, _, rfl, rfl, _, _, _, _, rfl, rfl, (SqL.of (S1981.bM _ _ h2010)), a2015, _, rfl, _, rfl, _, rfl, _, _, rfl, rfl, (divW_small g2023.1 g2023.2), _, _, _, _, rfl, rfl, (SqL.of (S1981.bM _ _ h1925)), a2026, _, rfl, _, rfl, _, _, rfl, rfl, (divW_small g2032.1 g2032.2), _, _, _, _, rfl, rfl, (SqL.of (S1981.bM _ _ h2030)), a2035, _, rfl, rfl, rfl, G1986, _, _, _, _, _, rfl, S1981.sG, (Rp.hide_nil (rp_mk2 (S1981.bM _ _ h2018) (.int _) (.bl _))), (Rp.hide_nil (rp_mk2 (S1981.bM _ _ h2038) (.int _) (.bl _))), cW_callN hw (fun v2043 hw => ?_) trivial⟩
        obtain ⟨g2044, hw⟩ := cW_grd hw
        obtain ⟨g2045, hw⟩ := cW_grd hw
        obtain ⟨g2046, hw⟩ := cW_grd hw
        obtain ⟨g2047, hw⟩ := cW_grd hw
        refine ⟨_, rfl, _, rfl, _, _, rfl, rfl, _, _, _, _, rfl, rfl, (SqL.of h2002), (atI_map g2044), _, rfl, _, rfl, _, _, rfl, rfl, _, _, _, _, rfl, rfl, (SqL.of h2002), (atI_map g2045), _, rfl, _, rfl, _, _, _, _, rfl, rfl, (SqL.of h2002), (atI_map g2046), _, rfl, _, rfl, _, _, rfl, rfl, _, _, _, _, rfl, rfl, (SqL.of h2002), (atI_map g2047), _, rfl, _, rfl, rfl, rfl, G1986, _, _, _, _, _, _, rfl, S1981.sG, cW_callN hw (fun v2048 hw v2051 H2049 G2052 e2050 eG2053 sG2054 hn2055 r2056 => ?_) trivial⟩
        have S2057 := S1981.step e2050 eG2053 sG2054 hn2055
        obtain ⟨a2058, v2060, v2061, rfl, h2059, r2062, r2063⟩ := rp_tup2 r2056
        obtain rfl := rp_int r2062
        obtain rfl := rp_int r2063
        obtain ⟨g2064, hw⟩ := cW_grd hw
        have h2065 := (e2050 _ _ h2002)
        refine ⟨_, rfl, _, _, _, _, rfl, rfl, (SqT.of (S2057.sG _ _ h2059)), rfl, _, rfl, _, rfl, _, _, rfl, rfl, _, _, _, _, rfl, rfl, h2065, (ixN_map g2064), ?_⟩
        generalize g2066 : upd H2049 b2001 _ = H2067
        obtain ⟨x2068, h2069⟩ := gen_mut g2066
        have h2070 : H2067 b2001 = some (.lst ((setL ((itD (rows_1973) (x1988))) ((x1960 - 1)) (v2048.1) : (List Int)).map V.int)) := set_map h2069
        have S2071 := S2057.mut1 x2068 ((((fun b hb => (.tail _ (List.mem_append_left _ hb))) : ∀ b ∈ L1975, b ∈ (a_rows :: (L1975 ++ []))) : ∀ b ∈ L1975, b ∈ (a_rows :: (L1975 ++ []))) _ (hs1998 _ List.mem_cons_self)) h2070
        have w2072 : OwAll G1986 H2067 L1975 (vs1974) ((setL (rows_1973) (x1988) (setL ((itD (rows_1973) (x1988))) ((x1960 - 1)) (v2048.1)) : (List (List Int))).map (oL oI)) := upd_tree up1999 (samex_of e2050 x2068) List.mem_cons_self (Ow.ints h2070)
        have hw := cW_bnd hw
        have w2074 : OwAll G2052 H2067 L1975 (vs1974) ((setL (rows_1973) (x1988) (setL ((itD (rows_1973) (x1988))) ((x1960 - 1)) (v2048.1)) : (List (List Int))).map (oL oI)) := (OwAll.mono eG2053 keeps_refl w2072)
        obtain ⟨v2075, L2076, a2077, w2078, hs2079, up2080, gr2081⟩ := OwAll.partM (k := x1988) w2074 (setL_g g1993)
        obtain rfl := atI_same a2077 a1996
        obtain ⟨rfl, h2082⟩ := Ow.atInts w2078
        obtain ⟨g2083, hw⟩ := cW_grd hw
        refine ⟨_, rfl, _, _, _, _, rfl, rfl, (SqT.of (S2071.sG _ _ h2059)), rfl, _, rfl, _, rfl, _, _, _, _, rfl, rfl, h2082, (ixN_map g2083), ?_⟩
        generalize g2084 : upd H2067 b2001 _ = H2085
        obtain ⟨x2086, h2087⟩ := gen_mut g2084
        have h2088 : H2085 b2001 = some (.lst ((setL ((itD (setL (rows_1973) (x1988) (setL ((itD (rows_1973) (x1988))) ((x1960 - 1)) (v2048.1))) (x1988))) (x1960) (v2048.2) : (List Int)).map V.int)) := set_map h2087
        have S2089 := S2071.mut1 x2086 ((((fun b hb => (.tail _ (List.mem_append_left _ hb))) : ∀ b ∈ L1975, b ∈ (a_rows :: (L1975 ++ []))) : ∀ b ∈ L1975, b ∈ (a_rows :: (L1975 ++ []))) _ (hs2079 _ List.mem_cons_self)) h2088
        have w2090 : OwAll G2052 H2085 L1975 (vs1974) ((setL (setL (rows_1973) (x1988) (setL ((itD (rows_1973) (x1988))) ((x1960 - 1)) (v2048.1))) (x1988) (setL ((itD (setL (rows_1973) (x1988) (setL ((itD (rows_1973) (x1988))) ((x1960 - 1)) (v2048.1))) (x1988))) (x1960) (v2048.2)) : (List (List Int))).map (oL oI)) := upd_tree up2080 x2086 List.mem_cons_self (Ow.ints h2088)
        have hw := cW_bnd hw
        have hw := cW_ok hw
        have hw := hK1991 _ hw
        have h2092 := (x2086 _ _ (x2068 _ _ (e2050 _ _ h1982) (ne1983 _ (hs2079 _ List.mem_cons_self)).symm) (ne1983 _ (hs2079 _ List.mem_cons_self)).symm)
        exact ⟨(setL (setL (rows_1973) (x1988) (setL ((itD (rows_1973) (x1988))) ((x1960 - 1)) (v2048.1))) (x1988) (setL ((itD (setL (rows_1973) (x1988) (setL ((itD (rows_1973) (x1988))) ((x1960 - 1)) (v2048.1))) (x1988))) (x1960) (v2048.2))), (vs1974), L1975, _, _, _, _, _, rfl, (Same.trans eG1987 eG2053), (S2089.sub (all_cons (.head _) (all_app ((fun b hb => (.tail _ (List.mem_append_left _ hb))) : ∀ b ∈ L1975, b ∈ (a_rows :: (L1975 ++ []))) all_nil))), h2092, ne1983, w2090, ((fun b hb => (hs1985 b hb).elim (((fun b hb => .inl hb) : ∀ b ∈ L_rows, b ∈ L_rows ∨ H b = none) b) (fun z => .inr (S0.free z))) : ∀ b ∈ L1975, b ∈ L_rows ∨ H b = none), hw⟩
      · intro σ H2093 hw
        obtain ⟨rows_1973, vs1974, L1975, u1976, u1977, u1978, u1979, G2099, rfl, eG2100, S2094, h2095, ne2096, w2097, hs2098, hw⟩ := hw
        have hw := hK1972 _ (cW_forS0 (rng_len _ _).symm hw)
        have hw : cW (F__law_columns_r2  (rows_1973)) _ EE := hw
        unfold F__law_columns_r2 at hw
        have hw := cW_ok hw
        have hw := hK1963 _ hw
        exact ⟨(rows_1973), (vs1974), L1975, _, _, _, _, _, _, rfl, (Same.trans eG1959 eG2100), (S2094.sub (all_cons (.head _) (all_app ((fun b hb => (.tail _ (List.mem_append_left _ hb))) : ∀ b ∈ L1975, b ∈ (a_rows :: (L1975 ++ []))) all_nil))), h2095, ne2096, w2097, ((fun b hb => (hs2098 b hb).elim (((fun b hb => .inl hb) : ∀ b ∈ L_rows, b ∈ L_rows ∨ H b = none) b) (fun z => .inr (S0.free z))) : ∀ b ∈ L1975, b ∈ L_rows ∨ H b = none), hw⟩
    · intro σ H2102 hw
      obtain ⟨rows_1944, vs1945, L1946, u1947, u1948, u1949, u1950, u1951, G2108, rfl, eG2109, S2103, h2104, ne2105, w2106, hs2107, hw⟩ := hw
      have hw := hK1943 _ (cW_forS0 (rngP_len _ _ _).symm hw)
      have hw : cW (F__law_columns_r1  (rows_1944)) _ EE := hw
      unfold F__law_columns_r1 at hw
      have hw := cW_ok hw
      exact hK0 _ hw _ _ _ L1946 S2103.base S2103.g0 S2103.sG S2103.gn S2103.pm h2104 ((fun b hb => (hs2107 b hb).elim (((fun b hb => .inl hb) : ∀ b ∈ L_rows, b ∈ L_rows ∨ H b = none) b) (fun z => .inr (S0.free z))) : ∀ b ∈ L1946, b ∈ L_rows ∨ H b = none) ((fun b hb => (S2103.ow b (((fun b hb => (.tail _ (List.mem_append_left _ hb))) : ∀ b ∈ L1946, b ∈ (a_rows :: (L1946 ++ []))) b hb)).1) : ∀ b ∈ L1946, G2108 b = none) (ne2105 : ∀ b ∈ L1946, b ≠ a_rows) w2106

abbrev N__law_turned : List Str := ["rows", "i", "j"]
theorem sc__law_turned : FnScope N__law_turned ["rows"] (defScope s__law_turned) := ⟨rfl, rfl, rfl, by decide +kernel, rfl, by decide +kernel, by decide +kernel⟩
theorem ok__law_turned (D : DefX K mg "_law_turned" s__law_turned ["rows"] pats__law_turned) (T : Txt w K mg AD)  : CalX P w K mg base 1 "_law_turned" (sp__law_turned K AD) pats__law_turned := by
  refine D.ok sc__law_turned (fun vs H Q E h => ?_) (fun f cdv A_ outer s H vs Q E hr h => ?_)
  · obtain ⟨G, v_rows, rows', rfl, _⟩ := h
    rfl
  · obtain ⟨G, v_rows, rows', rfl, sG, r_rows, hw⟩ := h
    refine ⟨_, (pss_one (ps_ret (pe_lc (own := [("i", 1)]) (g := gName 1) (by rfl) sc__law_turned.nd (pi_range1 rfl T.b_range (pa_cons (pe_callB (call_lenLiK (K := K)) (by rfl) T.b_len (by decide +kernel) (pa_cons (pe_ix (ix_listK (K := K)) (pv 0) pe_int (fun _ _ => rfl)) pa_nil)) pa_nil)) (blkOk_by (own := [("i", 1)]) (N := N__law_turned) (sc := defScope s__law_turned) (by decide +kernel)) (fun _ _ _ _ _ => (pg_name (i := 1) sc__law_turned.nd rfl (Or.inr rfl))) (fun _ _ _ _ _ => pts_nil) (fun _ _ _ _ _ => (pe_lc (own := [("j", 2)]) (g := gName 2) (by rfl) sc__law_turned.nd (pi_range1 rfl T.b_range (pa_cons (pe_callB (call_lenLK (K := K)) (by rfl) T.b_len (by decide +kernel) (pa_cons (pv 0) pa_nil)) pa_nil)) (blk_relabel (blkOk_by (own := [("j", 2)]) (N := N__law_turned) (by decide +kernel))) (fun _ _ _ _ _ => (pg_name (i := 2) sc__law_turned.nd rfl (Or.inl rfl))) (fun _ _ _ _ _ => pts_nil) (fun _ _ _ _ _ => (pe_ix (ix_listK (K := K)) (pe_ix (ix_listK (K := K)) (pv 0) (pv 2) (fun _ _ => rfl)) (pv 1) (fun _ _ => rfl)))))))), ?_⟩
    obtain ⟨KK, EE, hK0, hE, hw⟩ := cW_gen hw
    have S0 := Sep.startG sG
    unfold F__law_turned at hw
    obtain ⟨a2111, vs2112, rfl, h2113, d2114⟩ := rp_list r_rows
    obtain ⟨g2115, hw⟩ := cW_grd hw
    obtain ⟨v2116, a2117, r2118⟩ := RpAll.ixD (k := 0) d2114 g2115
    obtain ⟨a2119, rfl, h2120⟩ := rp_ints r2118
    obtain ⟨g2121, hw⟩ := cW_grd hw
    obtain ⟨K2124, hK2125, hw⟩ := cW_push hw
    refine ⟨_, rfl, _, _, _, _, rfl, rfl, (SqL.of (S0.bM _ _ h2113)), a2117, _, _, rfl, (SqL.of (S0.bM _ _ h2120)), _, rfl, g2121.1, g2121.2, fun D2126 n2127 => lc_range (lo := 0) (n := Int.toNat (((((itD (rows') (0))) : (List Int)).length : Int))) (fun i1 H' => ∃ (G' : Hp) (acc2129 : (List (List Int))) (vs2130 : List V) (L2128 : List Addr), Same G G' ∧ Sep [] H G G' H' (D2126 :: (L2128 ++ [])) ∧ H' D2126 = some (.lst vs2130) ∧ OwAll G' H' L2128 vs2130 ((acc2129 : (List (List Int))).map (oL oI)) ∧ (∀ b ∈ L2128, H b = none) ∧ (∀ b ∈ L2128, b ≠ D2126) ∧ Same H H' ∧ cW (mapA (List.drop i1 (rng (0) (Int.toNat (((((itD (rows') (0))) : (List Int)).length : Int))))) acc2129 (fun x => noEr (F__law_turned_c1 (rows') x))) K2124 EE) ?_ ?_ ?_⟩
    · generalize g2131 : upd H D2126 _ = H2132
      obtain ⟨e2133, h2134⟩ := gen_new n2127 g2131
      have fr2135 := S0.free n2127
      have S2136 := S0.new n2127 e2133 h2134 fr2135
      exact ⟨_, [], [], [], Same.refl _, (S2136.sub (all_cons (.head _) (all_app (L := []) all_nil all_nil))), h2134, OwAll.nil, all_nil, all_nil, e2133, hw⟩
    · intro i1 H2137 hi hw
      obtain ⟨G2140, acc2142, vs2143, L2145, eG2141, S2138, h2139, d2144, nb2146, nd2147, eo2148, hw⟩ := hw
      obtain ⟨z2149, hw⟩ := cW_mapA (rng_get hi) hw
      generalize (0 + (i1 : Int)) = x2150 at hw ⊢
      have hw := cW_noEr hw
      have hw : cW (F__law_turned_c1 (rows') (x2150)) _ (fun _ => False) := hw
      unfold F__law_turned_c1 at hw
      refine ⟨rfl, ?_⟩
      refine tyes_go ?_
      obtain ⟨g2152, hw⟩ := cW_grd hw
      obtain ⟨K2156, hK2157, hw⟩ := cW_push hw
      refine ⟨_, rfl, _, _, _, rfl, (SqL.of (S2138.bM _ _ h2113)), (by rw [d2114.len, List.length_map]), _, rfl, g2152.1, g2152.2, fun D2158 n2159 => lc_range (lo := 0) (n := Int.toNat ((((rows') : (List (List Int))).length : Int))) (fun i2 H' => ∃ (G' : Hp) (acc2161 : (List Int)), Same G2140 G' ∧ Sep [] H G G' H' (D2158 :: (D2126 :: (L2145 ++ []))) ∧ H' D2126 = some (.lst (vs2143)) ∧ H' D2158 = some (.lst ((acc2161 : (List Int)).map V.int)) ∧ OwAll G' H' L2145 (vs2143) ((acc2142 : (List (List Int))).map (oL oI)) ∧ Same H2137 H' ∧ cW (mapA (List.drop i2 (rng (0) (Int.toNat ((((rows') : (List (List Int))).length : Int))))) acc2161 (fun x => noEr (F__law_turned_c2 (rows') (x2150) x))) K2156 (fun _ => False)) ?_ ?_ ?_⟩
      · generalize g2163 : upd H2137 D2158 _ = H2164
        obtain ⟨e2165, h2166⟩ := gen_new n2159 g2163
        have fr2167 := S2138.free n2159
        have S2168 := S2138.new n2159 e2165 h2166 fr2167
        have h2169 := (e2165 _ _ h2139)
        have w2170 : OwAll G2140 H2164 L2145 (vs2143) ((acc2142 : (List (List Int))).map (oL oI)) := (OwAll.mono (Same.refl _) (keeps_same e2165) d2144)
        exact ⟨_, [], Same.refl _, S2168, h2169, h2166, w2170, e2165, hw⟩
      · intro i2 H2171 hi hw
        obtain ⟨G2174, acc2176, eG2175, S2172, h2183, h2173, w2184, eo2182, hw⟩ := hw
        obtain ⟨z2185, hw⟩ := cW_mapA (rng_get hi) hw
        generalize (0 + (i2 : Int)) = x2186 at hw ⊢
        have hw := cW_noEr hw
        have hw : cW (F__law_turned_c2 (rows') (x2150) (x2186)) _ (fun _ => False) := hw
        unfold F__law_turned_c2 at hw
        refine ⟨rfl, ?_⟩
        refine tyes_go ?_
        obtain ⟨g2188, hw⟩ := cW_grd hw
        obtain ⟨v2189, a2190, r2191⟩ := RpAll.ixD (k := x2186) d2114 g2188
        obtain ⟨a2192, rfl, h2193⟩ := rp_ints r2191
        obtain ⟨g2194, hw⟩ := cW_grd hw
        refine ⟨_, rfl, _, rfl, _, _, _, _, rfl, rfl, (SqL.of (S2172.bM _ _ h2113)), a2190, _, rfl, _, _, _, _, rfl, rfl, (SqL.of (S2172.bM _ _ h2193)), (atI_map g2194), _, h2173, (app_lenM z2185), ?_⟩
        generalize g2195 : upd H2171 D2158 _ = H2196
        obtain ⟨x2197, h2198⟩ := gen_mut g2195
        have S2199 := S2172.mut1 x2197 (.head _) h2198
        have hw := cW_ok hw
        have h2200 := (x2197 _ _ h2183 (ne_of_none h2139 n2159))
        have w2201 : OwAll G2174 H2196 L2145 (vs2143) ((acc2142 : (List (List Int))).map (oL oI)) := (OwAll.mono (Same.refl _) (keeps_mut x2197 ((there_ne (fun b_ hb_ => (S2138.ow b_ (((fun b hb => (.tail _ (List.mem_append_left _ hb))) : ∀ b ∈ L2145, b ∈ (D2126 :: (L2145 ++ []))) b_ hb_)).2.1) n2159) : ∀ b ∈ L2145, b ≠ D2158)) w2184)
        exact ⟨_, (acc2176 ++ [(itD ((itD (rows') (x2186))) (x2150))]), eG2175, S2199, h2200, (snoc_map h2198), w2201, (same_mut eo2182 x2197 n2159), hw⟩
      intro H2202 hw
      obtain ⟨G2205, acc2207, eG2206, S2203, h2214, h2204, w2215, eo2213, hw⟩ := hw
      have hw := hK2157 _ (cW_mapA0 (rng_len _ _).symm hw)
      have fr2216 := S2138.free n2159
      refine ⟨_, h2214, (app_len (OwAll.rpA w2215 (encO_L encO_I) S2203.sG) z2149), ?_⟩
      generalize g2217 : upd H2202 D2126 _ = H2218
      obtain ⟨x2219, h2220⟩ := gen_mut g2217
      have S2221 := S2203.mut1 x2219 (.tail _ (.head _)) h2220
      have hw := cW_ok hw
      exact ⟨_, (acc2142 ++ [acc2207]), _, (L2145 ++ (D2158 :: ([] : List Addr))), (Same.trans eG2141 eG2206), (S2221.sub (all_cons (.tail _ (.head _)) (all_app (all_app ((fun b hb => (.tail _ (.tail _ (List.mem_append_left _ hb)))) : ∀ b ∈ L2145, b ∈ (D2158 :: (D2126 :: (L2145 ++ [])))) (all_cons (.head _) all_nil)) all_nil))), h2220, (OwAll.mono (Same.refl _) (keeps_mut x2219 ((all_app nd2147 (all_cons (ne_of_none h2139 n2159).symm all_nil)) : ∀ b ∈ (L2145 ++ (D2158 :: ([] : List Addr))), b ≠ D2126)) (OwAll.snocM w2215 (Ow.ints h2204) ((fun b hb => (nm_cons ((there_ne (fun b_ hb_ => (S2138.ow b_ (((fun b hb => (.tail _ (List.mem_append_left _ hb))) : ∀ b ∈ L2145, b ∈ (D2126 :: (L2145 ++ []))) b_ hb_)).2.1) n2159) b hb) nm_nil)) : ∀ b ∈ L2145, b ∉ (D2158 :: ([] : List Addr))))), ((all_app nb2146 (all_cons (none_of_same eo2148 n2159) all_nil)) : ∀ b ∈ (L2145 ++ (D2158 :: ([] : List Addr))), H b = none), ((all_app nd2147 (all_cons (ne_of_none h2139 n2159).symm all_nil)) : ∀ b ∈ (L2145 ++ (D2158 :: ([] : List Addr))), b ≠ D2126), (same_mut (Same.trans eo2148 eo2213) x2219 n2127), hw⟩
    intro H2222 hw
    obtain ⟨G2225, acc2227, vs2228, L2230, eG2226, S2223, h2224, d2229, nb2231, nd2232, eo2233, hw⟩ := hw
    have hw := hK2125 _ (cW_mapA0 (rng_len _ _).symm hw)
    have fr2234 := S0.free n2127
    have hw := cW_ok hw
    exact hK0 _ hw _ _ _ _ _ fr2234 ((fun b hb => S0.free (nb2231 b hb)) : ∀ b ∈ L2230, H b = none) (nd2232 : ∀ b ∈ L2230, b ≠ D2126) S2223.b0 S2223.g0 S2223.sG S2223.gn (S2223.ow _ (.head _)).1 ((fun b hb => (S2223.ow b (((fun b hb => (.tail _ (List.mem_append_left _ hb))) : ∀ b ∈ L2230, b ∈ (D2126 :: (L2230 ++ []))) b hb)).1) : ∀ b ∈ L2230, G2225 b = none) h2224 d2229

abbrev N__law_turned_v_b : List Str := ["rows", "i", "j"]
theorem sc__law_turned_v_b : FnScope N__law_turned_v_b ["rows"] (defScope s__law_turned_v_b) := ⟨rfl, rfl, rfl, by decide +kernel, rfl, by decide +kernel, by decide +kernel⟩
theorem ok__law_turned_v_b (D : DefX K mg "_law_turned" s__law_turned_v_b ["rows"] pats__law_turned_v_b) (T : Txt w K mg AD)  : CalX P w K mg base 1 "_law_turned" (sp__law_turned_v_b K AD) pats__law_turned_v_b := by
  refine D.ok sc__law_turned_v_b (fun vs H Q E h => ?_) (fun f cdv A_ outer s H vs Q E hr h => ?_)
  · obtain ⟨G, v_rows, rows', rfl, _⟩ := h
    rfl
  · obtain ⟨G, v_rows, rows', rfl, sG, r_rows, hw⟩ := h
    refine ⟨_, (pss_one (ps_ret (pe_lc (own := [("i", 1)]) (g := gName 1) (by rfl) sc__law_turned_v_b.nd (pi_range1 rfl T.b_range (pa_cons (pe_callB (call_lenLK (K := K)) (by rfl) T.b_len (by decide +kernel) (pa_cons (pe_ix (ix_listK (K := K)) (pv 0) pe_int (fun _ _ => rfl)) pa_nil)) pa_nil)) (blkOk_by (own := [("i", 1)]) (N := N__law_turned_v_b) (sc := defScope s__law_turned_v_b) (by decide +kernel)) (fun _ _ _ _ _ => (pg_name (i := 1) sc__law_turned_v_b.nd rfl (Or.inr rfl))) (fun _ _ _ _ _ => pts_nil) (fun _ _ _ _ _ => (pe_lc (own := [("j", 2)]) (g := gName 2) (by rfl) sc__law_turned_v_b.nd (pi_range1 rfl T.b_range (pa_cons (pe_callB (call_lenLK (K := K)) (by rfl) T.b_len (by decide +kernel) (pa_cons (pv 0) pa_nil)) pa_nil)) (blk_relabel (blkOk_by (own := [("j", 2)]) (N := N__law_turned_v_b) (by decide +kernel))) (fun _ _ _ _ _ => (pg_name (i := 2) sc__law_turned_v_b.nd rfl (Or.inl rfl))) (fun _ _ _ _ _ => pts_nil) (fun _ _ _ _ _ => (pe_ix (ix_listK (K := K)) (pe_ix (ix_listK (K := K)) (pv 0) (pv 2) (fun _ _ => rfl)) (pv 1) (fun _ _ => rfl)))))))), ?_⟩
    obtain ⟨KK, EE, hK0, hE, hw⟩ := cW_gen hw
    have S0 := Sep.startG sG
    unfold F__law_turned_v_b at hw
    obtain ⟨a2235, vs2236, rfl, h2237, d2238⟩ := rp_list r_rows
    obtain ⟨g2239, hw⟩ := cW_grd hw
    obtain ⟨v2240, a2241, r2242⟩ := RpAll.ixD (k := 0) d2238 g2239
    obtain ⟨a2243, vs2244, rfl, h2245, d2246⟩ := rp_list r2242
    obtain ⟨g2247, hw⟩ := cW_grd hw
    obtain ⟨K2250, hK2251, hw⟩ := cW_push hw
    refine ⟨_, rfl, _, _, _, _, rfl, rfl, (SqL.of (S0.sG _ _ h2237)), a2241, _, _, _, rfl, (SqL.of (S0.sG _ _ h2245)), (by rw [d2246.len, List.length_map]), _, rfl, g2247.1, g2247.2, fun D2252 n2253 => lc_range (lo := 0) (n := Int.toNat (((((itD (rows') (0))) : (List (Int × Bool))).length : Int))) (fun i1 H' => ∃ (G' : Hp) (acc2255 : (List (List (Int × Bool)))) (vs2256 : List V), Same G G' ∧ Sep [] H G G' H' [D2252] ∧ H' D2252 = some (.lst vs2256) ∧ RpAll G' vs2256 ((acc2255 : (List (List (Int × Bool)))).map (encL (encT2 PyData.int PyData.bool))) ∧ Same H H' ∧ cW (mapA (List.drop i1 (rng (0) (Int.toNat (((((itD (rows') (0))) : (List (Int × Bool))).length : Int))))) acc2255 (fun x => noEr (F__law_turned_v_b_c1 (rows') x))) K2250 EE) ?_ ?_ ?_⟩
    · generalize g2257 : upd H D2252 _ = H2258
      obtain ⟨e2259, h2260⟩ := gen_new n2253 g2257
      have fr2261 := S0.free n2253
      have S2262 := S0.new n2253 e2259 h2260 fr2261
      exact ⟨_, [], [], Same.refl _, S2262, h2260, RpAll.nil, e2259, hw⟩
    · intro i1 H2263 hi hw
      obtain ⟨G2266, acc2268, vs2269, eG2267, S2264, h2265, d2270, eo2274, hw⟩ := hw
      obtain ⟨z2275, hw⟩ := cW_mapA (rng_get hi) hw
      generalize (0 + (i1 : Int)) = x2276 at hw ⊢
      have hw := cW_noEr hw
      have hw : cW (F__law_turned_v_b_c1 (rows') (x2276)) _ (fun _ => False) := hw
      unfold F__law_turned_v_b_c1 at hw
      refine ⟨rfl, ?_⟩
      refine tyes_go ?_
      obtain ⟨g2278, hw⟩ := cW_grd hw
      obtain ⟨K2282, hK2283, hw⟩ := cW_push hw
      refine ⟨_, rfl, _, _, _, rfl, (SqL.of (S2264.sG _ _ (eG2267 _ _ h2237))), (by rw [(RpAll.mono eG2267 d2238).len, List.length_map]), _, rfl, g2278.1, g2278.2, fun D2284 n2285 => lc_range (lo := 0) (n := Int.toNat ((((rows') : (List (List (Int × Bool)))).length : Int))) (fun i2 H' => ∃ (G' : Hp) (acc2287 : (List (Int × Bool))) (vs2288 : List V), Same G2266 G' ∧ Sep [] H G G' H' [D2284, D2252] ∧ H' D2252 = some (.lst (vs2269)) ∧ H' D2284 = some (.lst vs2288) ∧ RpAll G' vs2288 ((acc2287 : (List (Int × Bool))).map (encT2 PyData.int PyData.bool)) ∧ Same H2263 H' ∧ cW (mapA (List.drop i2 (rng (0) (Int.toNat ((((rows') : (List (List (Int × Bool)))).length : Int))))) acc2287 (fun x => noEr (F__law_turned_v_b_c2 (rows') (x2276) x))) K2282 (fun _ => False)) ?_ ?_ ?_⟩
      · generalize g2289 : upd H2263 D2284 _ = H2290
        obtain ⟨e2291, h2292⟩ := gen_new n2285 g2289
        have fr2293 := S2264.free n2285
        have S2294 := S2264.new n2285 e2291 h2292 fr2293
        have h2295 := (e2291 _ _ h2265)
        exact ⟨_, [], [], Same.refl _, S2294, h2295, h2292, RpAll.nil, e2291, hw⟩
      · intro i2 H2296 hi hw
        obtain ⟨G2299, acc2301, vs2302, eG2300, S2297, h2308, h2298, d2303, eo2307, hw⟩ := hw
        obtain ⟨z2309, hw⟩ := cW_mapA (rng_get hi) hw
        generalize (0 + (i2 : Int)) = x2310 at hw ⊢
        have hw := cW_noEr hw
        have hw : cW (F__law_turned_v_b_c2 (rows') (x2276) (x2310)) _ (fun _ => False) := hw
        unfold F__law_turned_v_b_c2 at hw
        refine ⟨rfl, ?_⟩
        refine tyes_go ?_
        obtain ⟨g2312, hw⟩ := cW_grd hw
        obtain ⟨v2313, a2314, r2315⟩ := RpAll.ixD (k := x2310) (RpAll.mono eG2300 (RpAll.mono eG2267 d2238)) g2312
        obtain ⟨a2316, vs2317, rfl, h2318, d2319⟩ := rp_list r2315
        obtain ⟨g2320, hw⟩ := cW_grd hw
        obtain ⟨v2321, a2322, r2323⟩ := RpAll.ixD (k := x2276) d2319 g2320
        obtain ⟨a2324, v2326, v2327, rfl, h2325, r2328, r2329⟩ := rp_tup2 r2323
        obtain rfl := rp_int r2328
        obtain rfl := rp_bool r2329
        refine ⟨_, rfl, _, rfl, _, _, _, _, rfl, rfl, (SqL.of (S2297.sG _ _ (eG2300 _ _ (eG2267 _ _ h2237)))), a2314, _, rfl, _, _, _, _, rfl, rfl, (SqL.of (S2297.sG _ _ h2318)), a2322, ?_⟩
        refine ⟨_, h2298, (app_len d2303 z2309), ?_⟩
        generalize g2330 : upd H2296 D2284 _ = H2331
        obtain ⟨x2332, h2333⟩ := gen_mut g2330
        have S2334 := S2297.mut1 x2332 (.head _) h2333
        have hw := cW_ok hw
        have h2335 := (x2332 _ _ h2308 (ne_of_none h2265 n2285))
        exact ⟨_, (acc2301 ++ [(itD ((itD (rows') (x2310))) (x2276))]), _, eG2300, S2334, h2335, h2333, (app_map d2303 (RpAll.one (rp_mk2 h2325 (.int _) (.bl _)))), (same_mut eo2307 x2332 n2285), hw⟩
      intro H2336 hw
      obtain ⟨G2339, acc2341, vs2342, eG2340, S2337, h2348, h2338, d2343, eo2347, hw⟩ := hw
      have hw := hK2283 _ (cW_mapA0 (rng_len _ _).symm hw)
      have fr2349 := S2264.free n2285
      obtain ⟨G2350, eG2351, hg2352, S2353⟩ := Sep.freeze (O' := [D2252]) S2337 (.head _) h2338 fr2349 ((all_cons ⟨(.tail _ (.head _)), (ne_of_none h2265 n2285)⟩ all_nil))
      refine ⟨_, h2348, (app_len (RpAll.mono eG2351 (RpAll.mono eG2340 d2270)) z2275), ?_⟩
      generalize g2354 : upd H2336 D2252 _ = H2355
      obtain ⟨x2356, h2357⟩ := gen_mut g2354
      have S2358 := S2353.mut1 x2356 (.head _) h2357
      have hw := cW_ok hw
      exact ⟨_, (acc2268 ++ [acc2341]), _, (Same.trans (Same.trans eG2267 eG2340) eG2351), S2358, h2357, (app_map (RpAll.mono eG2351 (RpAll.mono eG2340 d2270)) (RpAll.one (rp_mk_list hg2352 (RpAll.mono eG2351 d2343)))), (same_mut (Same.trans eo2274 eo2347) x2356 n2253), hw⟩
    intro H2359 hw
    obtain ⟨G2362, acc2364, vs2365, eG2363, S2360, h2361, d2366, eo2370, hw⟩ := hw
    have hw := hK2251 _ (cW_mapA0 (rng_len _ _).symm hw)
    have fr2371 := S0.free n2253
    obtain ⟨G2372, eG2373, hg2374, S2375⟩ := Sep.freeze (O' := []) S2360 (.head _) h2361 fr2371 (all_nil)
    have hw := cW_ok hw
    exact hK0 _ hw _ _ _ S2375.b0 S2375.g0 S2375.sG S2375.gn (rp_mk_list hg2374 (RpAll.mono eG2373 d2366))

abbrev N_law : List Str := ["script", "first", "width", "height", "fmt", "settings", "edge", "header", "size", "draws", "blocks", "j", "row", "i", "draw", "level", "planes", "kept", "due", "plane", "small", "turned", "told"]
theorem sc_law : FnScope N_law ["script"] (defScope s_law) := ⟨rfl, rfl, rfl, by decide +kernel, rfl, by decide +kernel, by decide +kernel⟩
theorem ok_law {f : Addr} {fd : FuncData} (F : FunD K "law" "law" (defArgs s_law) (defBody s_law) (defScope s_law) [] [] f fd) (T : Txt w K mg AD) (c__law_digits : CalX P w K mg base 1 "_law_digits" (sp__law_digits K AD) pats__law_digits) (c__law_cell : CalX P w K mg base 1 "_law_cell" (sp__law_cell K AD) pats__law_cell) (c_Format___init__ : MakX P w K mg base 1 "Format" AD.c_Format (sp_Format___init__ K AD) pats_Format___init__) (c_Settings___init__ : MakX P w K mg base 2 "Settings" AD.c_Settings (sp_Settings___init__ K AD) pats_Settings___init__) (c_PictureHeader___init__ : MakX P w K mg base 3 "PictureHeader" AD.c_PictureHeader (sp_PictureHeader___init__ K AD) (pats_PictureHeader___init__ AD)) (c_Format_blocks : MetX P w K mg base 1 AD.c_Format "blocks" (sp_Format_blocks K AD) pats_Format_blocks) (c__law_planes : CalX P w K mg base 5 "_law_planes" (sp__law_planes K AD) pats__law_planes) (c_Format_top : PropY P w K mg base 1 AD.c_Format "top" (sp_Format_top K AD) pats_Format_top) (c_copy_planes : CalX P w K mg base 1 "copy_planes" (sp_copy_planes K AD) pats_copy_planes) (c__law_columns : CalX P w K mg base 2 "_law_columns" (sp__law_columns K AD) pats__law_columns) (c__law_turned : CalX P w K mg base 1 "_law_turned" (sp__law_turned K AD) pats__law_turned) (c__law_turned_v_b : CalX P w K mg base 1 "_law_turned" (sp__law_turned_v_b K AD) pats__law_turned_v_b) (c_Format_planes : PropY P w K mg base 1 AD.c_Format "planes" (sp_Format_planes K AD) pats_Format_planes) (c_deblock : CalX P w K mg base 5 "deblock" (sp_deblock K AD) pats_deblock) : FnG P w K mg base CX0 6 f fd ["script"] (sp_law K AD) := by
  refine FnG.bodyN F sc_law (fun vs H Q E h => ?_) (fun cdv A_ outer s H vs Q E hr h => ?_)
  · obtain ⟨a_script, script, rfl, _⟩ := h
    rfl
  · obtain ⟨a_script, script', rfl, q_script, hw, k⟩ := h
    refine ⟨_, (pss_cons (ps_set (i := 1) sc_law.nd rfl (Or.inl rfl) (vx_callX c__law_digits pat__law_digits_0 (.head _) hr (by decide) takes0 rfl (pa_cons (vx_callX c__law_cell pat__law_cell_0 (.head _) hr (by decide) takes0 rfl (pa_cons (pv 0) (pa_cons pe_int pa_nil)) pk_nil) (pa_cons pe_int (pa_cons pe_int pa_nil))) pk_nil))
      (pss_cons (ps_set (i := 2) sc_law.nd rfl (Or.inl rfl) (pe_op op_add pe_int (pe_op op_mod (pe_ix (ix_listK (K := K)) (pv 1) pe_int (fun _ _ => rfl)) pe_int)))
      (pss_cons (ps_set (i := 3) sc_law.nd rfl (Or.inl rfl) (pe_op op_add pe_int (pe_op op_mod (pe_ix (ix_listK (K := K)) (pv 1) pe_int (fun _ _ => rfl)) pe_int)))
      (C8.pss_cut (ps_if (pt_cmp (pc_eqI (pe_op op_mod (pe_op op_fdivW (pe_ix (ix_listK (K := K)) (pv 1) pe_int (fun _ _ => rfl)) pe_int) pe_int) pe_int)) (pss_cons (ps_set (i := 2) sc_law.nd rfl (Or.inl rfl) (pe_op op_add pe_int (pe_op op_mod (pe_ix (ix_listK (K := K)) (pv 1) pe_int (fun _ _ => rfl)) pe_int)))
      (pss_one (ps_set (i := 3) sc_law.nd rfl (Or.inl rfl) (pe_op op_add pe_int (pe_op op_mod (pe_ix (ix_listK (K := K)) (pv 1) pe_int (fun _ _ => rfl)) pe_int))))) pss_nil)
      (C8.pss_cut (ps_if (pt_cmp (pc_eqI (pe_op op_mod (pe_op op_fdivW (pe_ix (ix_listK (K := K)) (pv 1) pe_int (fun _ _ => rfl)) pe_int) pe_int) pe_int)) (pss_cons (ps_set (i := 2) sc_law.nd rfl (Or.inl rfl) (pe_op op_add pe_int (pe_op op_mod (pe_ix (ix_listK (K := K)) (pv 1) pe_int (fun _ _ => rfl)) pe_int)))
      (pss_one (ps_set (i := 3) sc_law.nd rfl (Or.inl rfl) (pe_op op_add pe_int (pe_op op_mod (pe_ix (ix_listK (K := K)) (pv 1) pe_int (fun _ _ => rfl)) pe_int))))) pss_nil)
      (pss_cons (ps_set (i := 4) sc_law.nd rfl (Or.inl rfl) (vx_makeX c_Format___init__ pat_Format___init___0 (.head _) hr (by decide) takes0 rfl (pa_cons (pv 2) (pa_cons (pv 3) pa_nil)) (pk_cons (pe_op op_add pe_int (pe_op op_mod (pe_ix (ix_listK (K := K)) (pv 1) pe_int (fun _ _ => rfl)) pe_int)) (pk_cons (pe_op op_mod (pe_ix (ix_listK (K := K)) (pv 1) pe_int (fun _ _ => rfl)) pe_int) pk_nil))))
      (pss_cons (ps_set (i := 5) sc_law.nd rfl (Or.inl rfl) (vx_makeX c_Settings___init__ pat_Settings___init___0 (.head _) hr (by decide) takes0 rfl (pa_cons (pv 4) pa_nil) (pk_cons pe_bl pk_nil)))
      (pss_cons (ps_set (i := 6) sc_law.nd rfl (Or.inl rfl) (pe_op op_sub (pe_op op_mod (pe_ix (ix_listK (K := K)) (pv 1) pe_int (fun _ _ => rfl)) pe_int) pe_int))
      (pss_cons (ps_set (i := 7) sc_law.nd rfl (Or.inl rfl) (vx_makeX c_PictureHeader___init__ (pat_PictureHeader___init___0 AD) (.head _) hr (by decide) takes0 rfl (pa_cons (pv 5) pa_nil) (pk_cons pe_int (pk_cons (pe_op op_mod (pe_ix (ix_listK (K := K)) (pv 1) pe_int (fun _ _ => rfl)) pe_int) (pk_cons (pv 6) pk_nil)))))
      (pss_cons (ps_set (i := 8) sc_law.nd rfl (Or.inl rfl) (vx_methX0 c_Format_blocks pat_Format_blocks_0 (.head _) hr (by decide) takes0 (pv 4)))
      (pss_cons (ps_set (i := 9) sc_law.nd rfl (Or.inl rfl) (vx_callX c__law_digits pat__law_digits_0 (.head _) hr (by decide) takes0 rfl (pa_cons (vx_callX c__law_cell pat__law_cell_0 (.head _) hr (by decide) takes0 rfl (pa_cons (pv 0) (pa_cons pe_int pa_nil)) pk_nil) (pa_cons pe_int (pa_cons (pe_op op_mul (pe_ix (ix_tupK (K := K)) (pv 8) pe_int (fun _ _ => rfl)) (pe_ix (ix_tupK (K := K)) (pv 8) pe_int (fun _ _ => rfl))) pa_nil))) pk_nil))
      (pss_cons (ps_set (i := 10) sc_law.nd rfl (Or.inl rfl) (pe_lst pa_nil))
      (pss_cons (ps_for PassesOwn.never rfl (pi_range1 rfl T.b_range (pa_cons (pe_ix (ix_tupK (K := K)) (pv 8) pe_int (fun _ _ => rfl)) pa_nil)) (pg_name (i := 11) sc_law.nd rfl (Or.inl rfl)) (pss_cons (ps_set (i := 12) sc_law.nd rfl (Or.inl rfl) (pe_lst pa_nil))
      (pss_cons (ps_for PassesOwn.never rfl (pi_range1 rfl T.b_range (pa_cons (pe_ix (ix_tupK (K := K)) (pv 8) pe_int (fun _ _ => rfl)) pa_nil)) (pg_name (i := 13) sc_law.nd rfl (Or.inl rfl)) (pss_cons (ps_set (i := 14) sc_law.nd rfl (Or.inl rfl) (pe_ix (ix_listK (K := K)) (pv 9) (pe_op op_add (pe_op op_mul (pv 11) (pe_ix (ix_tupK (K := K)) (pv 8) pe_int (fun _ _ => rfl))) (pv 13)) (fun _ _ => rfl)))
      (pss_cons (ps_set (i := 15) sc_law.nd rfl (Or.inl rfl) (pe_op op_mod (pe_op op_fdivW (pv 14) pe_int) pe_int))
      (C8.pss_cut (ps_if (pt_cmp (pc_eqI (pe_op op_mod (pv 14) pe_int) pe_int)) (pss_one (ps_set (i := 15) sc_law.nd rfl (Or.inl rfl) pe_int)) pss_nil)
      (pss_one (ps_expr (pe_bm PySem.F.plainAttrs_list PySem.F.slot_list_append PySem.F.type_list_append mt_append (pv 12) (pa_cons (pe_tup (pa_cons (pv 15) (pa_cons (pe_cmp (pc_eqI (pe_op op_mod (pe_op op_fdivW (pv 14) pe_int) pe_int) pe_int)) pa_nil))) pa_nil))))))))
      (pss_one (ps_expr (pe_bm PySem.F.plainAttrs_list PySem.F.slot_list_append PySem.F.type_list_append mt_append (pv 10) (pa_cons (pv 12) pa_nil)))))))
      (pss_cons (ps_set (i := 16) sc_law.nd rfl (Or.inl rfl) (vx_callX c__law_planes pat__law_planes_0 (.head _) hr (by decide) takes0 rfl (pa_cons (vx_callX c__law_cell pat__law_cell_0 (.head _) hr (by decide) takes0 rfl (pa_cons (pv 0) (pa_cons pe_int pa_nil)) pk_nil) (pa_cons (pv 4) (pa_cons (vx_propX c_Format_top hr (by decide) (pv 4)) pa_nil))) pk_nil))
      (pss_cons (ps_set (i := 17) sc_law.nd rfl (Or.inl rfl) (pe_callB (call_reprD hr.gd hr.units) (by rfl) T.b_repr (by decide +kernel) (pa_cons (pe_lst (pa_cons (pv 16) (pa_cons (pv 10) pa_nil))) pa_nil)))
      (pss_cons (ps_set (i := 18) sc_law.nd rfl (Or.inl rfl) (vx_callX c_copy_planes pat_copy_planes_0 (.head _) hr (by decide) takes0 rfl (pa_cons (pv 16) pa_nil) pk_nil))
      (pss_cons (ps_for PassesOwn.never rfl (pi_range1 rfl T.b_range (pa_cons (vx_propX c_Format_planes hr (by decide) (pv 4)) pa_nil)) (pg_name (i := 19) sc_law.nd rfl (Or.inl rfl)) (pss_cons (ps_set (i := 20) sc_law.nd rfl (Or.inl rfl) pe_int)
      (C8.pss_cut (ps_if (PW.pt (pw_and (pt_cmp (pc_gt (pv 19) pe_int)) (pw_and1 (pt_cmp (pc_eqI (fldK (K := K) (pv 4)) pe_int))))) (pss_one (ps_set (i := 20) sc_law.nd rfl (Or.inl rfl) pe_int)) pss_nil)
      (pss_cons (ps_expr (vx_callX c__law_columns pat__law_columns_0 (.head _) hr (by decide) takes0 rfl (pa_cons (pe_ix (ix_listK (K := K)) (pv 18) (pv 19) (fun _ _ => rfl)) (pa_cons (pv 10) (pa_cons (pv 20) (pa_cons (pv 6) (pa_cons (vx_propX c_Format_top hr (by decide) (pv 4)) pa_nil))))) pk_nil))
      (pss_cons (ps_set (i := 21) sc_law.nd rfl (Or.inl rfl) (vx_callX c__law_turned pat__law_turned_0 (.head _) hr (by decide) takes0 rfl (pa_cons (pe_ix (ix_listK (K := K)) (pv 18) (pv 19) (fun _ _ => rfl)) pa_nil) pk_nil))
      (pss_cons (ps_expr (vx_callX c__law_columns pat__law_columns_0 (.head _) hr (by decide) takes0 rfl (pa_cons (pv 21) (pa_cons (vx_callX c__law_turned_v_b pat__law_turned_v_b_0 (.head _) hr (by decide) takes0 rfl (pa_cons (pv 10) pa_nil) pk_nil) (pa_cons (pv 20) (pa_cons (pv 6) (pa_cons (vx_propX c_Format_top hr (by decide) (pv 4)) pa_nil))))) pk_nil))
      (pss_one (ps_asg (vx_callX c__law_turned pat__law_turned_0 (.head _) hr (by decide) takes0 rfl (pa_cons (pv 21) pa_nil) pk_nil) (pg_sub (pv 18) (pv 19) set_list)))))))))
      (pss_cons (ps_set (i := 22) sc_law.nd rfl (Or.inl rfl) (vx_callX c_deblock pat_deblock_0 (.head _) hr (by decide) takes0 rfl (pa_cons (pv 4) (pa_cons (pv 7) (pa_cons (pv 16) (pa_cons (pv 10) pa_nil)))) pk_nil))
      (pss_cons (ps_if (PW.pt (pw_or (pt_cmpR op_ne (pe_callB (call_reprD hr.gd hr.units) (by rfl) T.b_repr (by decide +kernel) (pa_cons (pe_lst (pa_cons (pv 16) (pa_cons (pv 10) pa_nil))) pa_nil)) (pv 17) (nomark _)) (pw_or (pt_not (pt_val (pe_callB call_isi (by rfl) T.b_isinstance (by decide +kernel) (pa_cons (pv 22) (pa_cons (pe_bltn (v := V.ty "list") (u := Value.type "list") (by rfl) T.b_list (by decide +kernel) rfl) pa_nil))))) (pw_or1 (pt_cmpR (op_neT (encOk_L (encOk_L (encOk_L encOk_int))) hr.units) (pv 22) (pv 18) (nomark _)))))) (pss_one (ps_ret pe_bl)) pss_nil)
      (pss_cons (ps_for PassesOwn.never rfl (pi_range1 rfl T.b_range (pa_cons (vx_propX c_Format_planes hr (by decide) (pv 4)) pa_nil)) (pg_name (i := 19) sc_law.nd rfl (Or.inl rfl)) (pss_one (ps_for PassesOwn.never rfl (pi_range1 rfl T.b_range (pa_cons (pe_callB (call_lenLK (K := K)) (by rfl) T.b_len (by decide +kernel) (pa_cons (pe_ix (ix_listK (K := K)) (pv 22) (pv 19) (fun _ _ => rfl)) pa_nil)) pa_nil)) (pg_name (i := 11) sc_law.nd rfl (Or.inl rfl)) (pss_cons (ps_asg (pe_un un_neg pe_int) (pg_sub (pe_ix (ix_listK (K := K)) (pe_ix (ix_listK (K := K)) (pv 22) (pv 19) (fun _ _ => rfl)) (pv 11) (fun _ _ => rfl)) pe_int set_list))
      (pss_one (ps_asg (pe_un un_neg pe_int) (pg_sub (pe_ix (ix_listK (K := K)) (pe_ix (ix_listK (K := K)) (pv 22) (pv 19) (fun _ _ => rfl)) (pv 11) (fun _ _ => rfl)) (pe_op op_sub (pe_callB (call_lenLiK (K := K)) (by rfl) T.b_len (by decide +kernel) (pa_cons (pe_ix (ix_listK (K := K)) (pe_ix (ix_listK (K := K)) (pv 22) (pv 19) (fun _ _ => rfl)) (pv 11) (fun _ _ => rfl)) pa_nil)) pe_int) set_list)))))))
      (pss_one (ps_ret (pe_and (pe_cmpR op_eq (pe_callB (call_reprD hr.gd hr.units) (by rfl) T.b_repr (by decide +kernel) (pa_cons (pe_lst (pa_cons (pv 16) (pa_cons (pv 10) pa_nil))) pa_nil)) (pv 17) (nomark _)) (pe_one (pe_cmpR (op_eqT (encOk_L (encOk_L (encOk_L encOk_int))) hr.units) (vx_callX c_deblock pat_deblock_0 (.head _) hr (by decide) takes0 rfl (pa_cons (pv 4) (pa_cons (pv 7) (pa_cons (pv 16) (pa_cons (pv 10) pa_nil)))) pk_nil) (pv 18) (nomark _)))))))))))))))))))))))))), ?_⟩
    obtain ⟨KK, EE, hK0, hE, hw⟩ := cW_gen hw
    have S0 := Sep.start0 H
    unfold F_law at hw
    refine ⟨_, rfl, rfl, rfl, H, _, _, _, rfl, S0.sG, (S0.b0.seq q_script), cW_call hw (fun v2376 hw => ?_) (fun e he => (hE e he).elim)⟩
    refine ⟨rfl, rfl, H, _, _, _, rfl, S0.sG, cW_call hw (fun v2377 hw p2380 H2378 n2381 e2379 h2382 => ?_) (fun e he => (hE e he).elim)⟩
    have h2383 : H2378 p2380 = some (.lst ((v2377 : (List Int)).map V.int)) := h2382
    have fr2384 := S0.free n2381
    have S2385 := S0.new n2381 e2379 h2383 fr2384
    obtain ⟨g2386, hw⟩ := cW_grd hw
    refine ⟨_, rfl, _, _, _, _, rfl, rfl, (SqL.of h2383), (atI_map g2386), _, _, rfl, rfl, (show (0 : Int) < 24 by decide), _, _, rfl, rfl, ?_⟩
    have hw := cW_bnd hw
    obtain ⟨g2388, hw⟩ := cW_grd hw
    refine ⟨_, rfl, _, _, _, _, rfl, rfl, (SqL.of h2383), (atI_map g2388), _, _, rfl, rfl, (show (0 : Int) < 24 by decide), _, _, rfl, rfl, ?_⟩
    have hw := cW_bnd hw
    refine ⟨fun σ H' => ∃ (width_2394 : Int) (height_2395 : Int) (G' : Hp), σ = [some (V.ref a_script), some (V.ref p2380), some (V.int width_2394), some (V.int height_2395), none, none, none, none, none, none, none, none, none, none, none, none, none, none, none, none, none, none, none] ∧ Same H G' ∧ Sep [] H H G' H' [p2380] ∧ H' p2380 = some (.lst ((v2377 : (List Int)).map V.int)) ∧ cW (F_law_k1 (script') (v2377) width_2394 height_2395) KK EE, ?_, ?_⟩
    · obtain ⟨K2396, hK2397, hw⟩ := cW_push hw
      obtain ⟨g2398, hw⟩ := cW_grd hw
      refine ⟨_, rfl, _, _, _, _, rfl, rfl, (SqL.of h2383), (atI_map g2398), _, _, rfl, rfl, (divW_lit (by decide) (by decide)), _, _, rfl, rfl, (show (0 : Int) < 8 by decide), _, _, rfl, rfl, _, rfl, ?_⟩
      refine iteD (fun c2399 => ?_) (fun c2399 => ?_)
      · have hw := cW_pos c2399 hw
        obtain ⟨g2400, hw⟩ := cW_grd hw
        refine ⟨_, rfl, _, _, _, _, rfl, rfl, (SqL.of h2383), (atI_map g2400), _, _, rfl, rfl, (show (0 : Int) < 24 by decide), _, _, rfl, rfl, ?_⟩
        have hw := cW_bnd hw
        obtain ⟨g2402, hw⟩ := cW_grd hw
        refine ⟨_, rfl, _, _, _, _, rfl, rfl, (SqL.of h2383), (atI_map g2402), _, _, rfl, rfl, (show (0 : Int) < 8 by decide), _, _, rfl, rfl, ?_⟩
        have hw := cW_bnd hw
        have hw := cW_ok hw
        have hw := hK2397 _ hw
        exact ⟨((25 + ((itD (v2377) (0)) % 24))), ((1 + ((itD (v2377) (1)) % 8))), _, rfl, (Same.refl _), S2385, h2383, hw⟩
      · have hw := cW_neg c2399 hw
        have hw := cW_ok hw
        have hw := hK2397 _ hw
        exact ⟨((1 + ((itD (v2377) (0)) % 24))), ((1 + ((itD (v2377) (1)) % 24))), _, rfl, (Same.refl _), S2385, h2383, hw⟩
    · intro σ H2404 hw
      obtain ⟨width_2394, height_2395, G2407, rfl, eG2408, S2405, h2406, hw⟩ := hw
      unfold F_law_k1 at hw
      refine ⟨fun σ H' => ∃ (width_2413 : Int) (height_2414 : Int) (G' : Hp), σ = [some (V.ref a_script), some (V.ref p2380), some (V.int width_2413), some (V.int height_2414), none, none, none, none, none, none, none, none, none, none, none, none, none, none, none, none, none, none, none] ∧ Same G2407 G' ∧ Sep [] H H G' H' [p2380] ∧ H' p2380 = some (.lst ((v2377 : (List Int)).map V.int)) ∧ cW (F_law_k2 (script') (v2377) width_2413 height_2414) KK EE, ?_, ?_⟩
      · obtain ⟨K2415, hK2416, hw⟩ := cW_push hw
        obtain ⟨g2417, hw⟩ := cW_grd hw
        refine ⟨_, rfl, _, _, _, _, rfl, rfl, (SqL.of h2406), (atI_map g2417), _, _, rfl, rfl, (divW_lit (by decide) (by decide)), _, _, rfl, rfl, (show (0 : Int) < 8 by decide), _, _, rfl, rfl, _, rfl, ?_⟩
        refine iteD (fun c2418 => ?_) (fun c2418 => ?_)
        · have hw := cW_pos c2418 hw
          obtain ⟨g2419, hw⟩ := cW_grd hw
          refine ⟨_, rfl, _, _, _, _, rfl, rfl, (SqL.of h2406), (atI_map g2419), _, _, rfl, rfl, (show (0 : Int) < 8 by decide), _, _, rfl, rfl, ?_⟩
          have hw := cW_bnd hw
          obtain ⟨g2421, hw⟩ := cW_grd hw
          refine ⟨_, rfl, _, _, _, _, rfl, rfl, (SqL.of h2406), (atI_map g2421), _, _, rfl, rfl, (show (0 : Int) < 24 by decide), _, _, rfl, rfl, ?_⟩
          have hw := cW_bnd hw
          have hw := cW_ok hw
          have hw := hK2416 _ hw
          exact ⟨((1 + ((itD (v2377) (0)) % 8))), ((25 + ((itD (v2377) (1)) % 24))), _, rfl, (Same.refl _), S2405, h2406, hw⟩
        · have hw := cW_neg c2418 hw
          have hw := cW_ok hw
          have hw := hK2416 _ hw
          exact ⟨(width_2394), (height_2395), _, rfl, (Same.refl _), S2405, h2406, hw⟩
      · intro σ H2423 hw
        obtain ⟨width_2413, height_2414, G2426, rfl, eG2427, S2424, h2425, hw⟩ := hw
        unfold F_law_k2 at hw
        obtain ⟨g2428, hw⟩ := cW_grd hw
        obtain ⟨g2429, hw⟩ := cW_grd hw
        refine ⟨_, rfl, _, rfl, _, rfl, _, _, _, _, rfl, rfl, (SqL.of h2425), (atI_map g2428), _, _, rfl, rfl, (show (0 : Int) < 5 by decide), _, _, rfl, rfl, _, rfl, _, _, _, _, rfl, rfl, (SqL.of h2425), (atI_map g2429), _, _, rfl, rfl, (show (0 : Int) < 3 by decide), rfl, rfl, fun x2430 dx2431 n2432 n2433 n2434 => ?_⟩
        generalize g2435 : upd (upd H2423 dx2431 _) x2430 _ = H2436
        obtain ⟨e2437, h2438⟩ := gen_obj n2432 n2433 n2434 g2435
        have fr2439 := S2424.free n2432
        have S2440 := S2424.new n2432 e2437 h2438 fr2439
        refine ⟨G2426, _, _, _, _, _, _, rfl, S2440.sG, (S2440.gno (all_cons (.head _) all_nil)), h2438, cW_call hw (fun v2441 hw H2442 x2443 h2444 => ⟨rfl, ?_⟩) (fun e he => (hE e he).elim)⟩
        have S2445 : Sep _ _ _ _ H2442 [x2430, p2380] := Sep.init S2440 x2443 (.head _) h2444 [] all_nil
        refine ⟨_, rfl, rfl, rfl, fun x2446 dx2447 n2448 n2449 n2450 => ?_⟩
        generalize g2451 : upd (upd H2442 dx2447 _) x2446 _ = H2452
        obtain ⟨e2453, h2454⟩ := gen_obj n2448 n2449 n2450 g2451
        have fr2455 := S2445.free n2448
        have S2456 := S2445.new n2448 e2453 h2454 fr2455
        have h2457 := (e2453 _ _ h2444)
        refine ⟨G2426, _, _, _, _, v2441, _, _, _, _, _, rfl, S2456.sG, (S2456.gno (all_cons (.head _) all_nil)), h2454, ((hideL_out (ni1 (ne_of_none h2444 n2448))).trans h2457), cW_call hw (fun v2458 hw H2459 x2460 h2461 => ⟨rfl, ?_⟩) (fun e he => (hE e he).elim)⟩
        have S2462 : Sep _ _ _ _ H2459 [x2446, x2430, p2380] := Sep.init S2456 x2460 (.head _) h2461 [] all_nil
        obtain ⟨g2463, hw⟩ := cW_grd hw
        have h2464 := ((SameXs.of x2460) _ _ (e2453 _ _ ((SameXs.of x2443) _ _ (e2437 _ _ h2425) (ni1 (ne_of_none h2425 n2432)))) (ni1 (ne_of_none ((SameXs.of x2443) _ _ (e2437 _ _ h2425) (ni1 (ne_of_none h2425 n2432))) n2448)))
        refine ⟨_, rfl, _, _, _, _, rfl, rfl, (SqL.of h2464), (atI_map g2463), _, _, rfl, rfl, (show (0 : Int) < 13 by decide), _, _, rfl, rfl, ?_⟩
        have hw := cW_bnd hw
        obtain ⟨g2466, hw⟩ := cW_grd hw
        refine ⟨_, rfl, _, rfl, _, _, _, _, rfl, rfl, (SqL.of h2464), (atI_map g2466), _, _, rfl, rfl, (show (0 : Int) < 32 by decide), _, rfl, rfl, rfl, fun x2467 dx2468 n2469 n2470 n2471 => ?_⟩
        generalize g2472 : upd (upd H2459 dx2468 _) x2467 _ = H2473
        obtain ⟨e2474, h2475⟩ := gen_obj n2469 n2470 n2471 g2472
        have fr2476 := S2462.free n2469
        have S2477 := S2462.new n2469 e2474 h2475 fr2476
        have h2478 := (e2474 _ _ h2461)
        have h2479 := (e2474 _ _ ((SameXs.of x2460) _ _ h2457 (ni1 (ne_of_none h2444 n2448))))
        refine ⟨G2426, _, _, _, _, _, _, (⟨v2441, v2458.slots, v2458.rows, v2458.deblock, v2458.offset, v2458.layers⟩ : St_Settings), _, _, _, _, _, _, _, _, _, _, _, rfl, S2477.sG, (S2477.gno (all_cons (.head _) all_nil)), h2475, ((hideL_out (ni1 (ne_of_none h2461 n2469))).trans h2478), ((hideL_out (ni1 (ne_of_none ((SameXs.of x2460) _ _ h2457 (ni1 (ne_of_none h2444 n2448))) n2469))).trans h2479), ⟨_, rfl, .inr (.inr T.td_PictureHeader___init___store)⟩, ⟨_, rfl, .inr (.inr T.td_PictureHeader___init___refs)⟩, cW_call hw (fun v2480 hw H2483 l2481 l2482 x2484 n2489 n2490 ne2491 h2485 h2487 h2488 => ⟨rfl, ?_⟩) (fun e he => (hE e he).elim)⟩
        have fr2492 := S2477.free n2489
        have fr2493 := S2477.free n2490
        have S2486 : Sep _ _ _ _ H2483 [l2481, l2482, x2467, x2446, x2430, p2380] := Sep.init S2477 x2484 (.head _) h2485 [l2481, l2482] (all_cons ⟨n2489, some_ne h2487, fr2492⟩ (all_cons ⟨n2490, some_ne h2488, fr2493⟩ all_nil))
        have h2494 := ((SameXs.of x2484) _ _ h2479 (ni1 (ne_of_none ((SameXs.of x2460) _ _ h2457 (ni1 (ne_of_none h2444 n2448))) n2469)))
        refine ⟨_, rfl, _, _, _, rfl, h2494, rfl, rfl, rfl, G2426, _, _, v2441, rfl, S2486.sG, (hide_nil h2494), cW_call hw (fun v2495 hw v2498 H2496 G2499 e2497 eG2500 sG2501 hn2502 r2503 => ?_) (fun e he => (hE e he).elim)⟩
        have S2504 := S2486.step e2497 eG2500 sG2501 hn2502
        obtain ⟨a2505, v2507, v2508, rfl, h2506, r2509, r2510⟩ := rp_tup2 r2503
        obtain rfl := rp_int r2509
        obtain rfl := rp_int r2510
        refine ⟨_, rfl, rfl, rfl, G2499, _, _, _, rfl, S2504.sG, (S2504.b0.seq q_script), cW_call hw (fun v2511 hw => ?_) (fun e he => (hE e he).elim)⟩
        obtain ⟨g2512, hw⟩ := cW_grd hw
        refine ⟨_, rfl, _, _, _, _, rfl, rfl, (SqT.of (S2504.sG _ _ h2506)), rfl, _, rfl, _, _, _, _, rfl, rfl, (SqT.of (S2504.sG _ _ h2506)), rfl, _, _, rfl, rfl, g2512, rfl, rfl, G2499, _, _, _, rfl, S2504.sG, cW_call hw (fun v2513 hw p2516 H2514 n2517 e2515 h2518 => ?_) (fun e he => (hE e he).elim)⟩
        have h2519 : H2514 p2516 = some (.lst ((v2513 : (List Int)).map V.int)) := h2518
        have fr2520 := S2504.free n2517
        have S2521 := S2504.new n2517 e2515 h2519 fr2520
        refine ⟨(by show 0 ≤ sizeLine; decide), fun p2522 n2523 => ?_⟩
        generalize g2524 : upd H2514 p2522 _ = H2525
        obtain ⟨e2526, h2527⟩ := gen_new n2523 g2524
        have h2528 : H2525 p2522 = some (.lst ([])) := h2527
        have fr2529 := S2521.free n2523
        have S2530 := S2521.new n2523 e2526 h2528 fr2529
        have d2531 : RpAll G2499 ([]) ((([] : (List (List (Int × Bool)))) : (List (List (Int × Bool)))).map (encL (encT2 PyData.int PyData.bool))) := RpAll.nil
        obtain ⟨g2532, hw⟩ := cW_grd hw
        obtain ⟨K2539, hK2540, hw⟩ := cW_push hw
        refine ⟨_, rfl, _, _, _, _, rfl, rfl, (SqT.of (S2530.sG _ _ h2506)), rfl, _, rfl, g2532.1, g2532.2, for_range (lo := 0) (n := Int.toNat (v2495.2)) (fun i σ H' => ∃ (blocks_2541 : (List (List (Int × Bool)))) (vs2542 : List V) (u2543 : Option V) (u2544 : Option V) (u2545 : Option V) (u2546 : Option V) (u2547 : Option V) (G' : Hp), σ = [some (V.ref a_script), some (V.ref p2380), some (V.int (width_2413)), some (V.int (height_2414)), some (V.ref x2430), some (V.ref x2446), some (V.int ((((itD (v2377) (4)) % 13) - 6))), some (V.ref x2467), some (V.ref a2505), some (V.ref p2516), some (V.ref p2522), u2543, u2544, u2545, u2546, u2547, none, none, none, none, none, none, none] ∧ Same G2499 G' ∧ Sep [] H H G' H' [p2380, x2430, x2446, x2467, l2481, l2482, p2516, p2522] ∧ H' p2380 = some (.lst ((v2377 : (List Int)).map V.int)) ∧ H' x2430 = some (.ins AD.c_Format dx2431 [("width", V.int (v2441.width)), ("height", V.int (v2441.height)), ("depth", V.int (v2441.depth)), ("chroma", V.int (v2441.chroma))]) ∧ H' x2446 = some (.ins AD.c_Settings dx2447 [("fmt", V.ref x2430), ("slots", V.int (v2458.slots)), ("rows", V.int (v2458.rows)), ("deblock", V.bl (v2458.deblock)), ("offset", V.bl (v2458.offset)), ("layers", V.int (v2458.layers))]) ∧ H' x2467 = some (.ins AD.c_PictureHeader dx2468 [("number", V.int (v2480.number)), ("kind", V.str (v2480.kind)), ("level", V.int (v2480.level)), ("store", V.ref l2481), ("refs", V.ref l2482), ("weight", V.int (v2480.weight)), ("layer", V.int (v2480.layer)), ("shown", V.bl (v2480.shown)), ("edge", V.int (v2480.edge))]) ∧ H' l2481 = some (.lst ((v2480.store : (List Int)).map V.int)) ∧ H' l2482 = some (.lst ((v2480.refs : (List Int)).map V.int)) ∧ H' p2516 = some (.lst ((v2513 : (List Int)).map V.int)) ∧ H' p2522 = some (.lst (vs2542)) ∧ RpAll G' (vs2542) ((blocks_2541 : (List (List (Int × Bool)))).map (encL (encT2 PyData.int PyData.bool))) ∧ cW (forS (List.drop i (rng (0) (Int.toNat (v2495.2)))) blocks_2541 (fun s x => F_law_b3 (v2495) (v2513) s x)) K2539 EE) ?_ ?_ ?_⟩
        · have h2548 := (e2526 _ _ (e2515 _ _ (e2497 _ _ ((SameXs.of x2484) _ _ (e2474 _ _ h2464) (ni1 (ne_of_none h2464 n2469))))))
          have h2549 := (e2526 _ _ (e2515 _ _ (e2497 _ _ h2494)))
          have h2550 := (e2526 _ _ (e2515 _ _ (e2497 _ _ ((SameXs.of x2484) _ _ h2478 (ni1 (ne_of_none h2461 n2469))))))
          have h2551 := (e2526 _ _ (e2515 _ _ (e2497 _ _ h2485)))
          have h2552 := (e2526 _ _ (e2515 _ _ (e2497 _ _ h2487)))
          have h2553 := (e2526 _ _ (e2515 _ _ (e2497 _ _ h2488)))
          have h2554 := (e2526 _ _ h2519)
          exact ⟨(([] : (List (List (Int × Bool))))), _, _, _, _, _, _, _, rfl, (Same.refl _), (S2530.sub (all_cons (.tail _ (.tail _ (.tail _ (.tail _ (.tail _ (.tail _ (.tail _ (.head _)))))))) (all_cons (.tail _ (.tail _ (.tail _ (.tail _ (.tail _ (.tail _ (.head _))))))) (all_cons (.tail _ (.tail _ (.tail _ (.tail _ (.tail _ (.head _)))))) (all_cons (.tail _ (.tail _ (.tail _ (.tail _ (.head _))))) (all_cons (.tail _ (.tail _ (.head _))) (all_cons (.tail _ (.tail _ (.tail _ (.head _)))) (all_cons (.tail _ (.head _)) (all_cons (.head _) all_nil))))))))), h2548, h2549, h2550, h2551, h2552, h2553, h2554, h2528, d2531, hw⟩
        · intro i σ H2555 hi hw
          obtain ⟨blocks_2541, vs2542, u2543, u2544, u2545, u2546, u2547, G2566, rfl, eG2567, S2556, h2557, h2558, h2559, h2560, h2561, h2562, h2563, h2564, d2565, hw⟩ := hw
          have hw := cW_forS (rng_get hi) hw
          generalize (0 + (i : Int)) = x2568 at hw ⊢
          have hw : cW (F_law_b3 (v2495) (v2513) (blocks_2541) (x2568)) _ EE := hw
          unfold F_law_b3 at hw
          obtain ⟨K2570, hK2571, hw⟩ := cW_name hw
          refine ⟨(by show 0 ≤ sizeLine; decide), fun p2573 n2574 => ?_⟩
          generalize g2575 : upd H2555 p2573 _ = H2576
          obtain ⟨e2577, h2578⟩ := gen_new n2574 g2575
          have h2579 : H2576 p2573 = some (.lst ([])) := h2578
          have fr2580 := S2556.free n2574
          have S2581 := S2556.new n2574 e2577 h2579 fr2580
          have d2582 : RpAll G2566 ([]) ((([] : (List (Int × Bool))) : (List (Int × Bool))).map (encT2 PyData.int PyData.bool)) := RpAll.nil
          obtain ⟨g2583, hw⟩ := cW_grd hw
          obtain ⟨K2588, hK2589, hw⟩ := cW_push hw
          refine ⟨_, rfl, _, _, _, _, rfl, rfl, (SqT.of (S2581.sG _ _ (eG2567 _ _ h2506))), rfl, _, rfl, g2583.1, g2583.2, for_range (lo := 0) (n := Int.toNat (v2495.1)) (fun i σ H' => ∃ (row_2590 : (List (Int × Bool))) (vs2591 : List V) (u2592 : Option V) (u2593 : Option V) (u2594 : Option V) (G' : Hp), σ = [some (V.ref a_script), some (V.ref p2380), some (V.int (width_2413)), some (V.int (height_2414)), some (V.ref x2430), some (V.ref x2446), some (V.int ((((itD (v2377) (4)) % 13) - 6))), some (V.ref x2467), some (V.ref a2505), some (V.ref p2516), some (V.ref p2522), some (V.int (x2568)), some (V.ref p2573), u2592, u2593, u2594, none, none, none, none, none, none, none] ∧ Same G2566 G' ∧ Sep [] H H G' H' [p2380, x2430, x2446, x2467, l2481, l2482, p2516, p2522, p2573] ∧ H' p2380 = some (.lst ((v2377 : (List Int)).map V.int)) ∧ H' x2430 = some (.ins AD.c_Format dx2431 [("width", V.int (v2441.width)), ("height", V.int (v2441.height)), ("depth", V.int (v2441.depth)), ("chroma", V.int (v2441.chroma))]) ∧ H' x2446 = some (.ins AD.c_Settings dx2447 [("fmt", V.ref x2430), ("slots", V.int (v2458.slots)), ("rows", V.int (v2458.rows)), ("deblock", V.bl (v2458.deblock)), ("offset", V.bl (v2458.offset)), ("layers", V.int (v2458.layers))]) ∧ H' x2467 = some (.ins AD.c_PictureHeader dx2468 [("number", V.int (v2480.number)), ("kind", V.str (v2480.kind)), ("level", V.int (v2480.level)), ("store", V.ref l2481), ("refs", V.ref l2482), ("weight", V.int (v2480.weight)), ("layer", V.int (v2480.layer)), ("shown", V.bl (v2480.shown)), ("edge", V.int (v2480.edge))]) ∧ H' l2481 = some (.lst ((v2480.store : (List Int)).map V.int)) ∧ H' l2482 = some (.lst ((v2480.refs : (List Int)).map V.int)) ∧ H' p2516 = some (.lst ((v2513 : (List Int)).map V.int)) ∧ H' p2522 = some (.lst (vs2542)) ∧ H' p2573 = some (.lst (vs2591)) ∧ RpAll G' (vs2591) ((row_2590 : (List (Int × Bool))).map (encT2 PyData.int PyData.bool)) ∧ cW (forS (List.drop i (rng (0) (Int.toNat (v2495.1)))) row_2590 (fun s x => F_law_b4 (v2495) (v2513) (x2568) s x)) K2588 EE) ?_ ?_ ?_⟩
          · have h2595 := (e2577 _ _ h2557)
            have h2596 := (e2577 _ _ h2558)
            have h2597 := (e2577 _ _ h2559)
            have h2598 := (e2577 _ _ h2560)
            have h2599 := (e2577 _ _ h2561)
            have h2600 := (e2577 _ _ h2562)
            have h2601 := (e2577 _ _ h2563)
            have h2602 := (e2577 _ _ h2564)
            exact ⟨(([] : (List (Int × Bool)))), _, _, _, _, _, rfl, (Same.refl _), (S2581.sub (all_cons (.tail _ (.head _)) (all_cons (.tail _ (.tail _ (.head _))) (all_cons (.tail _ (.tail _ (.tail _ (.head _)))) (all_cons (.tail _ (.tail _ (.tail _ (.tail _ (.head _))))) (all_cons (.tail _ (.tail _ (.tail _ (.tail _ (.tail _ (.head _)))))) (all_cons (.tail _ (.tail _ (.tail _ (.tail _ (.tail _ (.tail _ (.head _))))))) (all_cons (.tail _ (.tail _ (.tail _ (.tail _ (.tail _ (.tail _ (.tail _ (.head _)))))))) (all_cons (.tail _ (.tail _ (.tail _ (.tail _ (.tail _ (.tail _ (.tail _ (.tail _ (.head _))))))))) (all_cons (.head _) all_nil)))))))))), h2595, h2596, h2597, h2598, h2599, h2600, h2601, h2602, h2579, d2582, hw⟩
          · intro i σ H2603 hi hw
            obtain ⟨row_2590, vs2591, u2592, u2593, u2594, G2615, rfl, eG2616, S2604, h2605, h2606, h2607, h2608, h2609, h2610, h2611, h2612, h2613, d2614, hw⟩ := hw
            have hw := cW_forS (rng_get hi) hw
            generalize (0 + (i : Int)) = x2617 at hw ⊢
            have hw : cW (F_law_b4 (v2495) (v2513) (x2568) (row_2590) (x2617)) _ EE := hw
            unfold F_law_b4 at hw
            obtain ⟨K2619, hK2620, hw⟩ := cW_name hw
            obtain ⟨g2622, hw⟩ := cW_grd hw
            obtain ⟨g2623, hw⟩ := cW_grd hw
            refine ⟨_, rfl, _, rfl, _, rfl, _, _, _, _, rfl, rfl, (SqT.of (S2604.sG _ _ (eG2616 _ _ (eG2567 _ _ h2506)))), rfl, _, _, rfl, rfl, g2622, _, rfl, _, _, rfl, rfl, _, _, _, _, rfl, rfl, (SqL.of h2611), (atI_map g2623), ?_⟩
            have hw := cW_bnd hw
            refine ⟨_, rfl, _, _, rfl, rfl, (divW_lit (by decide) (by decide)), _, _, rfl, rfl, (show (0 : Int) < 32 by decide), ?_⟩
            have hw := cW_bnd hw
            refine ⟨fun σ H' => ∃ (level_2629 : Int) (G' : Hp), σ = [some (V.ref a_script), some (V.ref p2380), some (V.int (width_2413)), some (V.int (height_2414)), some (V.ref x2430), some (V.ref x2446), some (V.int ((((itD (v2377) (4)) % 13) - 6))), some (V.ref x2467), some (V.ref a2505), some (V.ref p2516), some (V.ref p2522), some (V.int (x2568)), some (V.ref p2573), some (V.int (x2617)), some (V.int ((itD (v2513) (((x2568 * v2495.1) + x2617))))), some (V.int level_2629), none, none, none, none, none, none, none] ∧ Same G2615 G' ∧ Sep [] H H G' H' [p2380, x2430, x2446, x2467, l2481, l2482, p2516, p2522, p2573] ∧ H' p2380 = some (.lst ((v2377 : (List Int)).map V.int)) ∧ H' x2430 = some (.ins AD.c_Format dx2431 [("width", V.int (v2441.width)), ("height", V.int (v2441.height)), ("depth", V.int (v2441.depth)), ("chroma", V.int (v2441.chroma))]) ∧ H' x2446 = some (.ins AD.c_Settings dx2447 [("fmt", V.ref x2430), ("slots", V.int (v2458.slots)), ("rows", V.int (v2458.rows)), ("deblock", V.bl (v2458.deblock)), ("offset", V.bl (v2458.offset)), ("layers", V.int (v2458.layers))]) ∧ H' x2467 = some (.ins AD.c_PictureHeader dx2468 [("number", V.int (v2480.number)), ("kind", V.str (v2480.kind)), ("level", V.int (v2480.level)), ("store", V.ref l2481), ("refs", V.ref l2482), ("weight", V.int (v2480.weight)), ("layer", V.int (v2480.layer)), ("shown", V.bl (v2480.shown)), ("edge", V.int (v2480.edge))]) ∧ H' l2481 = some (.lst ((v2480.store : (List Int)).map V.int)) ∧ H' l2482 = some (.lst ((v2480.refs : (List Int)).map V.int)) ∧ H' p2516 = some (.lst ((v2513 : (List Int)).map V.int)) ∧ H' p2522 = some (.lst (vs2542)) ∧ H' p2573 = some (.lst (vs2591)) ∧ cW (F_law_k5 (row_2590) ((itD (v2513) (((x2568 * v2495.1) + x2617)))) level_2629) K2619 EE, ?_, ?_⟩
            · obtain ⟨K2630, hK2631, hw⟩ := cW_push hw
              refine ⟨_, rfl, _, _, rfl, rfl, (show (0 : Int) < 5 by decide), _, _, rfl, rfl, _, rfl, ?_⟩
              refine iteD (fun c2632 => ?_) (fun c2632 => ?_)
              · have hw := cW_pos c2632 hw
                have hw := cW_ok hw
                have hw := hK2631 _ hw
                exact ⟨(0), _, rfl, (Same.refl _), S2604, h2605, h2606, h2607, h2608, h2609, h2610, h2611, h2612, h2613, hw⟩
              · have hw := cW_neg c2632 hw
                have hw := cW_ok hw
                have hw := hK2631 _ hw
                exact ⟨((((itD (v2513) (((x2568 * v2495.1) + x2617))) / 5) % 32)), _, rfl, (Same.refl _), S2604, h2605, h2606, h2607, h2608, h2609, h2610, h2611, h2612, h2613, hw⟩
            · intro σ H2633 hw
              obtain ⟨level_2629, G2644, rfl, eG2645, S2634, h2635, h2636, h2637, h2638, h2639, h2640, h2641, h2642, h2643, hw⟩ := hw
              unfold F_law_k5 at hw
              refine ⟨_, rfl, (.inl ⟨rfl, _, SqL.of h2643⟩), _, rfl, _, rfl, _, _, rfl, rfl, (divW_lit (by decide) (by decide)), _, _, rfl, rfl, (show (0 : Int) < 3 by decide), _, _, rfl, rfl, (by show 2 ≤ sizeLine; decide), fun p2646 n2647 => ?_⟩
              generalize g2648 : upd H2633 p2646 _ = H2649
              obtain ⟨e2650, h2651⟩ := gen_new n2647 g2648
              have h2652 : H2649 p2646 = some (.tup [V.int (level_2629), V.bl (decide (((((itD (v2513) (((x2568 * v2495.1) + x2617))) / 7) % 3) : Int) = 0))]) := h2651
              have fr2653 := S2634.free n2647
              obtain ⟨G2655, eG2656, hg2657, S2654⟩ := S2634.grow n2647 e2650 h2652 fr2653
              obtain ⟨g2658, hw⟩ := cW_grd hw
              have h2659 := (e2650 _ _ h2643)
              refine ⟨_, _, _, rfl, rfl, h2659, (app_len (RpAll.mono eG2656 (RpAll.mono eG2645 d2614)) g2658), ?_⟩
              generalize g2660 : upd H2649 p2573 _ = H2661
              obtain ⟨x2662, h2663⟩ := gen_mut g2660
              have h2664 : H2661 p2573 = some (.lst (vs2591 ++ [V.ref p2646])) := h2663
              have S2665 := S2654.mut1 x2662 (.tail _ (.tail _ (.tail _ (.tail _ (.tail _ (.tail _ (.tail _ (.tail _ (.head _))))))))) h2664
              have d2666 : RpAll G2655 (vs2591 ++ [V.ref p2646]) (((row_2590) ++ [(level_2629, decide (((((itD (v2513) (((x2568 * v2495.1) + x2617))) / 7) % 3) : Int) = 0))] : (List (Int × Bool))).map (encT2 PyData.int PyData.bool)) := app_map (RpAll.mono eG2656 (RpAll.mono eG2645 d2614)) (RpAll.one (rp_mk2 hg2657 (.int _) (.bl _)))
              have hw := cW_bnd hw
              have hw := cW_ok hw
              have hw := hK2620 _ hw
              have h2668 := (x2662 _ _ (e2650 _ _ h2635) (ne_of_none h2557 n2574))
              have h2669 := (x2662 _ _ (e2650 _ _ h2636) (ne_of_none h2558 n2574))
              have h2670 := (x2662 _ _ (e2650 _ _ h2637) (ne_of_none h2559 n2574))
              have h2671 := (x2662 _ _ (e2650 _ _ h2638) (ne_of_none h2560 n2574))
              have h2672 := (x2662 _ _ (e2650 _ _ h2639) (ne_of_none h2561 n2574))
              have h2673 := (x2662 _ _ (e2650 _ _ h2640) (ne_of_none h2562 n2574))
              have h2674 := (x2662 _ _ (e2650 _ _ h2641) (ne_of_none h2563 n2574))
              have h2675 := (x2662 _ _ (e2650 _ _ h2642) (ne_of_none h2564 n2574))
              exact ⟨((row_2590) ++ [(level_2629, decide (((((itD (v2513) (((x2568 * v2495.1) + x2617))) / 7) % 3) : Int) = 0))]), _, _, _, _, _, rfl, (Same.trans (Same.trans eG2616 eG2645) eG2656), S2665, h2668, h2669, h2670, h2671, h2672, h2673, h2674, h2675, h2664, d2666, hw⟩
          · intro σ H2676 hw
            obtain ⟨row_2590, vs2591, u2592, u2593, u2594, G2688, rfl, eG2689, S2677, h2678, h2679, h2680, h2681, h2682, h2683, h2684, h2685, h2686, d2687, hw⟩ := hw
            have hw := hK2589 _ (cW_forS0 (rng_len _ _).symm hw)
            have hw : cW (F_law_r4 (blocks_2541) (row_2590)) _ EE := hw
            unfold F_law_r4 at hw
            obtain ⟨g2691, hw⟩ := cW_grd hw
            refine ⟨_, rfl, (.inl ⟨rfl, _, SqL.of h2685⟩), _, rfl, ?_⟩
            obtain ⟨G2692, eG2693, hg2694, S2695⟩ := Sep.freeze (O' := [p2380, x2430, x2446, x2467, l2481, l2482, p2516, p2522]) S2677 (.tail _ (.tail _ (.tail _ (.tail _ (.tail _ (.tail _ (.tail _ (.tail _ (.head _))))))))) h2686 fr2580 ((all_cons ⟨(.head _), (ne_of_none h2557 n2574)⟩ (all_cons ⟨(.tail _ (.head _)), (ne_of_none h2558 n2574)⟩ (all_cons ⟨(.tail _ (.tail _ (.head _))), (ne_of_none h2559 n2574)⟩ (all_cons ⟨(.tail _ (.tail _ (.tail _ (.head _)))), (ne_of_none h2560 n2574)⟩ (all_cons ⟨(.tail _ (.tail _ (.tail _ (.tail _ (.head _))))), (ne_of_none h2561 n2574)⟩ (all_cons ⟨(.tail _ (.tail _ (.tail _ (.tail _ (.tail _ (.head _)))))), (ne_of_none h2562 n2574)⟩ (all_cons ⟨(.tail _ (.tail _ (.tail _ (.tail _ (.tail _ (.tail _ (.head _))))))), (ne_of_none h2563 n2574)⟩ (all_cons ⟨(.tail _ (.tail _ (.tail _ (.tail _ (.tail _ (.tail _ (.tail _ (.head _)))))))), (ne_of_none h2564 n2574)⟩ all_nil)))))))))
            refine ⟨_, _, _, rfl, rfl, h2685, (app_len (RpAll.mono eG2693 (RpAll.mono eG2689 d2565)) g2691), ?_⟩
            generalize g2696 : upd H2676 p2522 _ = H2697
            obtain ⟨x2698, h2699⟩ := gen_mut g2696
            have h2700 : H2697 p2522 = some (.lst (vs2542 ++ [V.ref p2573])) := h2699
            have S2701 := S2695.mut1 x2698 (.tail _ (.tail _ (.tail _ (.tail _ (.tail _ (.tail _ (.tail _ (.head _)))))))) h2700
            have d2702 : RpAll G2692 (vs2542 ++ [V.ref p2573]) (((blocks_2541) ++ [row_2590] : (List (List (Int × Bool)))).map (encL (encT2 PyData.int PyData.bool))) := app_map (RpAll.mono eG2693 (RpAll.mono eG2689 d2565)) (RpAll.one (rp_mk_list hg2694 (RpAll.mono eG2693 d2687)))
            have hw := cW_bnd hw
            have hw := cW_ok hw
            have hw := hK2571 _ hw
            have h2704 := (x2698 _ _ h2678 (ne_of_none (e2515 _ _ (e2497 _ _ ((SameXs.of x2484) _ _ (e2474 _ _ h2464) (ni1 (ne_of_none h2464 n2469))))) n2523))
            have h2705 := (x2698 _ _ h2679 (ne_of_none (e2515 _ _ (e2497 _ _ h2494)) n2523))
            have h2706 := (x2698 _ _ h2680 (ne_of_none (e2515 _ _ (e2497 _ _ ((SameXs.of x2484) _ _ h2478 (ni1 (ne_of_none h2461 n2469))))) n2523))
            have h2707 := (x2698 _ _ h2681 (ne_of_none (e2515 _ _ (e2497 _ _ h2485)) n2523))
            have h2708 := (x2698 _ _ h2682 (ne_of_none (e2515 _ _ (e2497 _ _ h2487)) n2523))
            have h2709 := (x2698 _ _ h2683 (ne_of_none (e2515 _ _ (e2497 _ _ h2488)) n2523))
            have h2710 := (x2698 _ _ h2684 (ne_of_none h2519 n2523))
            exact ⟨((blocks_2541) ++ [row_2590]), _, _, _, _, _, _, _, rfl, (Same.trans (Same.trans eG2567 eG2689) eG2693), S2701, h2704, h2705, h2706, h2707, h2708, h2709, h2710, h2700, d2702, hw⟩
        · intro σ H2711 hw
          obtain ⟨blocks_2541, vs2542, u2543, u2544, u2545, u2546, u2547, G2722, rfl, eG2723, S2712, h2713, h2714, h2715, h2716, h2717, h2718, h2719, h2720, d2721, hw⟩ := hw
          have hw := hK2540 _ (cW_forS0 (rng_len _ _).symm hw)
          have hw : cW (F_law_r3 (script') (v2441) ((((itD (v2377) (4)) % 13) - 6)) ((⟨v2480.number, v2480.kind, v2480.level, v2480.store, v2480.refs, v2480.weight, v2480.layer, v2480.shown, v2480.edge⟩ : St_PictureHeader)) (blocks_2541)) _ EE := hw
          unfold F_law_r3 at hw
          refine ⟨_, rfl, rfl, rfl, G2722, _, _, _, rfl, S2712.sG, (S2712.b0.seq q_script), cW_call hw (fun v2725 hw => ?_) (fun e he => (hE e he).elim)⟩
          refine ⟨_, rfl, _, rfl, _, _, _, rfl, h2714, G2722, _, _, v2441, rfl, S2712.sG, (hide_nil h2714), cW_callN hw (fun v2726 hw H2727 e2728 => ?_) trivial⟩
          have S2729 := S2712.same e2728
          have h2730 := (e2728 _ _ h2714)
          refine ⟨rfl, rfl, G2722, _, _, _, v2441, _, rfl, S2729.sG, (hide_nil h2730), cW_call hw (fun v2731 hw v2734 H2732 G2735 e2733 eG2736 sG2737 hn2738 r2739 => ?_) (fun e he => (hE e he).elim)⟩
          have S2740 := S2729.step e2733 eG2736 sG2737 hn2738
          obtain ⟨a2741, vs2742, rfl, h2743, d2744⟩ := rp_list r2739
          refine ⟨_, rfl, _, rfl, ?_⟩
          have r2745 : Rp G2735 (V.ref a2741) (encD ((encL (encL (encL PyData.int))) (v2731))) := (rp_mk_list h2743 d2744)
          have h2746 := (e2733 _ _ (e2728 _ _ h2720))
          obtain ⟨G2747, eG2748, hg2749, S2750⟩ := Sep.freeze (O' := [p2380, x2430, x2446, x2467, l2481, l2482, p2516]) S2740 (.tail _ (.tail _ (.tail _ (.tail _ (.tail _ (.tail _ (.tail _ (.head _)))))))) h2746 fr2529 ((all_cons ⟨(.head _), (ne_of_none (e2515 _ _ (e2497 _ _ ((SameXs.of x2484) _ _ (e2474 _ _ h2464) (ni1 (ne_of_none h2464 n2469))))) n2523)⟩ (all_cons ⟨(.tail _ (.head _)), (ne_of_none (e2515 _ _ (e2497 _ _ h2494)) n2523)⟩ (all_cons ⟨(.tail _ (.tail _ (.head _))), (ne_of_none (e2515 _ _ (e2497 _ _ ((SameXs.of x2484) _ _ h2478 (ni1 (ne_of_none h2461 n2469))))) n2523)⟩ (all_cons ⟨(.tail _ (.tail _ (.tail _ (.head _)))), (ne_of_none (e2515 _ _ (e2497 _ _ h2485)) n2523)⟩ (all_cons ⟨(.tail _ (.tail _ (.tail _ (.tail _ (.head _))))), (ne_of_none (e2515 _ _ (e2497 _ _ h2487)) n2523)⟩ (all_cons ⟨(.tail _ (.tail _ (.tail _ (.tail _ (.tail _ (.head _)))))), (ne_of_none (e2515 _ _ (e2497 _ _ h2488)) n2523)⟩ (all_cons ⟨(.tail _ (.tail _ (.tail _ (.tail _ (.tail _ (.tail _ (.head _))))))), (ne_of_none h2519 n2523)⟩ all_nil))))))))
          have r2751 : Rp G2747 (V.ref p2522) (encD ((encL (encL (encT2 PyData.int PyData.bool))) (blocks_2541))) := (rp_mk_list hg2749 (RpAll.mono eG2748 (RpAll.mono eG2736 d2721)))
          refine ⟨(by show 2 ≤ sizeLine; decide), fun p2752 n2753 => ?_⟩
          generalize g2754 : upd H2732 p2752 _ = H2755
          obtain ⟨e2756, h2757⟩ := gen_new n2753 g2754
          have h2758 : H2755 p2752 = some (.lst ([(V.ref a2741), (V.ref p2522)])) := h2757
          have fr2759 := S2750.free n2753
          have S2760 := S2750.new n2753 e2756 h2758 fr2759
          have d2761 : RpAll G2747 ([(V.ref a2741), (V.ref p2522)]) (([((encL (encL (encL PyData.int))) (v2731)), ((encL (encL (encT2 PyData.int PyData.bool))) (blocks_2541))] : (List PyData)).map encD) := (RpAll.cons (Rp.mono eG2748 r2745) (RpAll.cons r2751 RpAll.nil))
          obtain ⟨g2762, hw⟩ := cW_grd hw
          refine ⟨_, ((encL encD) ([((encL (encL (encL PyData.int))) (v2731)), ((encL (encL (encT2 PyData.int PyData.bool))) (blocks_2541))])), rfl, (rp_mk_list h2758 (RpAll.mono S2760.sG d2761)), g2762, _, rfl, rfl, rfl, G2747, _, _, rfl, S2760.sG, (Rp.hide_nil (rp_mk_list (S2760.sG _ _ (eG2748 _ _ h2743)) (RpAll.mono S2760.sG (RpAll.mono eG2748 d2744)))), cW_call hw (fun v2763 hw H2764 a2766 vs2767 L2768 G2769 n2770 nb2771 nd2772 e2765 eG2773 sG2774 hn2775 ga2776 gL2777 h2778 w2779 => ?_) (fun e he => (hE e he).elim)⟩
          have fr2780 := S2760.free n2770
          have S2781 : Sep _ _ _ _ H2764 (a2766 :: (L2768 ++ (p2752 :: (p2380 :: (x2430 :: (x2446 :: (x2467 :: (l2481 :: (l2482 :: (p2516 :: [])))))))))) := Sep.steptree S2760 e2765 eG2773 sG2774 hn2775 (a2766 :: L2768) (all_cons ⟨n2770, ga2776, some_ne h2778⟩ (fun b hb => ⟨nb2771 b hb, gL2777 b hb, OwAll.there w2779 b hb⟩))
          have h2782 := (e2765 _ _ (e2756 _ _ (e2733 _ _ h2730)))
          refine ⟨_, rfl, _, _, _, rfl, h2782, G2769, _, _, v2441, rfl, S2781.sG, (hide_nil h2782), cW_callN hw (fun v2783 hw H2784 e2785 => ?_) trivial⟩
          have S2786 := S2781.same e2785
          obtain ⟨g2787, hw⟩ := cW_grd hw
          obtain ⟨K2796, hK2797, hw⟩ := cW_push hw
          refine ⟨_, rfl, g2787.1, g2787.2, for_range (lo := 0) (n := Int.toNat (v2783)) (fun i σ H' => ∃ (due_2798 : (List (List (List Int)))) (vs2799 : List V) (L2800 : List Addr) (u2801 : Option V) (u2802 : Option V) (u2803 : Option V) (G' : Hp), σ = [some (V.ref a_script), some (V.ref p2380), some (V.int (width_2413)), some (V.int (height_2414)), some (V.ref x2430), some (V.ref x2446), some (V.int ((((itD (v2377) (4)) % 13) - 6))), some (V.ref x2467), some (V.ref a2505), some (V.ref p2516), some (V.ref p2522), u2543, u2544, u2545, u2546, u2547, some (V.ref a2741), some (V.str ((PyData.shown ((encL encD) ([((encL (encL (encL PyData.int))) (v2731)), ((encL (encL (encT2 PyData.int PyData.bool))) (blocks_2541))]))))), some (V.ref a2766), u2801, u2802, u2803, none] ∧ Same G2769 G' ∧ Sep [] H H G' H' (p2380 :: (x2430 :: (x2446 :: (x2467 :: (l2481 :: (l2482 :: (p2516 :: (a2766 :: (L2800 ++ []))))))))) ∧ H' p2380 = some (.lst ((v2377 : (List Int)).map V.int)) ∧ H' x2430 = some (.ins AD.c_Format dx2431 [("width", V.int (v2441.width)), ("height", V.int (v2441.height)), ("depth", V.int (v2441.depth)), ("chroma", V.int (v2441.chroma))]) ∧ H' x2446 = some (.ins AD.c_Settings dx2447 [("fmt", V.ref x2430), ("slots", V.int (v2458.slots)), ("rows", V.int (v2458.rows)), ("deblock", V.bl (v2458.deblock)), ("offset", V.bl (v2458.offset)), ("layers", V.int (v2458.layers))]) ∧ H' x2467 = some (.ins AD.c_PictureHeader dx2468 [("number", V.int (v2480.number)), ("kind", V.str (v2480.kind)), ("level", V.int (v2480.level)), ("store", V.ref l2481), ("refs", V.ref l2482), ("weight", V.int (v2480.weight)), ("layer", V.int (v2480.layer)), ("shown", V.bl (v2480.shown)), ("edge", V.int (v2480.edge))]) ∧ H' l2481 = some (.lst ((v2480.store : (List Int)).map V.int)) ∧ H' l2482 = some (.lst ((v2480.refs : (List Int)).map V.int)) ∧ H' p2516 = some (.lst ((v2513 : (List Int)).map V.int)) ∧ H' a2766 = some (.lst (vs2799)) ∧ (∀ b ∈ L2800, b ≠ p2380) ∧ (∀ b ∈ L2800, b ≠ x2430) ∧ (∀ b ∈ L2800, b ≠ x2446) ∧ (∀ b ∈ L2800, b ≠ x2467) ∧ (∀ b ∈ L2800, b ≠ l2481) ∧ (∀ b ∈ L2800, b ≠ l2482) ∧ (∀ b ∈ L2800, b ≠ p2516) ∧ (∀ b ∈ L2800, b ≠ a2766) ∧ OwAll G' H' L2800 (vs2799) ((due_2798 : (List (List (List Int)))).map (oL (oL oI))) ∧ cW (forS (List.drop i (rng (0) (Int.toNat (v2783)))) due_2798 (fun s x => F_law_b6 (v2441) ((((itD (v2377) (4)) % 13) - 6)) (blocks_2541) s x)) K2796 EE) ?_ ?_ ?_⟩
          · have h2804 := (e2785 _ _ (e2765 _ _ (e2756 _ _ (e2733 _ _ (e2728 _ _ h2713)))))
            have h2805 := (e2785 _ _ h2782)
            have h2806 := (e2785 _ _ (e2765 _ _ (e2756 _ _ (e2733 _ _ (e2728 _ _ h2715)))))
            have h2807 := (e2785 _ _ (e2765 _ _ (e2756 _ _ (e2733 _ _ (e2728 _ _ h2716)))))
            have h2808 := (e2785 _ _ (e2765 _ _ (e2756 _ _ (e2733 _ _ (e2728 _ _ h2717)))))
            have h2809 := (e2785 _ _ (e2765 _ _ (e2756 _ _ (e2733 _ _ (e2728 _ _ h2718)))))
            have h2810 := (e2785 _ _ (e2765 _ _ (e2756 _ _ (e2733 _ _ (e2728 _ _ h2719)))))
            have h2811 := (e2785 _ _ h2778)
            have w2812 : OwAll G2769 H2784 L2768 (vs2767) ((v2763 : (List (List (List Int)))).map (oL (oL oI))) := (OwAll.mono (Same.refl _) (keeps_same e2785) w2779)
            exact ⟨(v2763), (vs2767), L2768, _, _, _, _, rfl, (Same.refl _), (S2786.sub (all_cons (.tail _ (List.mem_append_right _ (.tail _ (.head _)))) (all_cons (.tail _ (List.mem_append_right _ (.tail _ (.tail _ (.head _))))) (all_cons (.tail _ (List.mem_append_right _ (.tail _ (.tail _ (.tail _ (.head _)))))) (all_cons (.tail _ (List.mem_append_right _ (.tail _ (.tail _ (.tail _ (.tail _ (.head _))))))) (all_cons (.tail _ (List.mem_append_right _ (.tail _ (.tail _ (.tail _ (.tail _ (.tail _ (.head _)))))))) (all_cons (.tail _ (List.mem_append_right _ (.tail _ (.tail _ (.tail _ (.tail _ (.tail _ (.tail _ (.head _))))))))) (all_cons (.tail _ (List.mem_append_right _ (.tail _ (.tail _ (.tail _ (.tail _ (.tail _ (.tail _ (.tail _ (.head _)))))))))) (all_cons (.head _) (all_app ((fun b hb => (.tail _ (List.mem_append_left _ hb))) : ∀ b ∈ L2768, b ∈ (a2766 :: (L2768 ++ (p2752 :: (p2380 :: (x2430 :: (x2446 :: (x2467 :: (l2481 :: (l2482 :: (p2516 :: []))))))))))) all_nil)))))))))), h2804, h2805, h2806, h2807, h2808, h2809, h2810, h2811, (new_ne2 nb2771 (S2760.ow _ (.tail _ (.head _))).2.1), (new_ne2 nb2771 (S2760.ow _ (.tail _ (.tail _ (.head _)))).2.1), (new_ne2 nb2771 (S2760.ow _ (.tail _ (.tail _ (.tail _ (.head _))))).2.1), (new_ne2 nb2771 (S2760.ow _ (.tail _ (.tail _ (.tail _ (.tail _ (.head _)))))).2.1), (new_ne2 nb2771 (S2760.ow _ (.tail _ (.tail _ (.tail _ (.tail _ (.tail _ (.head _))))))).2.1), (new_ne2 nb2771 (S2760.ow _ (.tail _ (.tail _ (.tail _ (.tail _ (.tail _ (.tail _ (.head _)))))))).2.1), (new_ne2 nb2771 (S2760.ow _ (.tail _ (.tail _ (.tail _ (.tail _ (.tail _ (.tail _ (.tail _ (.head _))))))))).2.1), nd2772, w2812, hw⟩
          · intro i σ H2813 hi hw
            obtain ⟨due_2798, vs2799, L2800, u2801, u2802, u2803, G2832, rfl, eG2833, S2814, h2815, h2816, h2817, h2818, h2819, h2820, h2821, h2822, ne2823, ne2824, ne2825, ne2826, ne2827, ne2828, ne2829, ne2830, w2831, hw⟩ := hw
            have hw := cW_forS (rng_get hi) hw
            generalize (0 + (i : Int)) = x2834 at hw ⊢
            have hw : cW (F_law_b6 (v2441) ((((itD (v2377) (4)) % 13) - 6)) (blocks_2541) (due_2798) (x2834)) _ EE := hw
            unfold F_law_b6 at hw
            obtain ⟨K2836, hK2837, hw⟩ := cW_name hw
            refine ⟨fun σ H' => ∃ (small_2845 : Int) (G' : Hp), σ = [some (V.ref a_script), some (V.ref p2380), some (V.int (width_2413)), some (V.int (height_2414)), some (V.ref x2430), some (V.ref x2446), some (V.int ((((itD (v2377) (4)) % 13) - 6))), some (V.ref x2467), some (V.ref a2505), some (V.ref p2516), some (V.ref p2522), u2543, u2544, u2545, u2546, u2547, some (V.ref a2741), some (V.str ((PyData.shown ((encL encD) ([((encL (encL (encL PyData.int))) (v2731)), ((encL (encL (encT2 PyData.int PyData.bool))) (blocks_2541))]))))), some (V.ref a2766), some (V.int (x2834)), some (V.int small_2845), u2803, none] ∧ Same G2832 G' ∧ Sep [] H H G' H' (p2380 :: (x2430 :: (x2446 :: (x2467 :: (l2481 :: (l2482 :: (p2516 :: (a2766 :: (L2800 ++ []))))))))) ∧ H' p2380 = some (.lst ((v2377 : (List Int)).map V.int)) ∧ H' x2430 = some (.ins AD.c_Format dx2431 [("width", V.int (v2441.width)), ("height", V.int (v2441.height)), ("depth", V.int (v2441.depth)), ("chroma", V.int (v2441.chroma))]) ∧ H' x2446 = some (.ins AD.c_Settings dx2447 [("fmt", V.ref x2430), ("slots", V.int (v2458.slots)), ("rows", V.int (v2458.rows)), ("deblock", V.bl (v2458.deblock)), ("offset", V.bl (v2458.offset)), ("layers", V.int (v2458.layers))]) ∧ H' x2467 = some (.ins AD.c_PictureHeader dx2468 [("number", V.int (v2480.number)), ("kind", V.str (v2480.kind)), ("level", V.int (v2480.level)), ("store", V.ref l2481), ("refs", V.ref l2482), ("weight", V.int (v2480.weight)), ("layer", V.int (v2480.layer)), ("shown", V.bl (v2480.shown)), ("edge", V.int (v2480.edge))]) ∧ H' l2481 = some (.lst ((v2480.store : (List Int)).map V.int)) ∧ H' l2482 = some (.lst ((v2480.refs : (List Int)).map V.int)) ∧ H' p2516 = some (.lst ((v2513 : (List Int)).map V.int)) ∧ H' a2766 = some (.lst (vs2799)) ∧ OwAll G' H' L2800 (vs2799) ((due_2798 : (List (List (List Int)))).map (oL (oL oI))) ∧ cW (F_law_k7 (v2441) ((((itD (v2377) (4)) % 13) - 6)) (blocks_2541) (due_2798) (x2834) small_2845) K2836 EE, ?_, ?_⟩
            · obtain ⟨K2846, hK2847, hw⟩ := cW_push hw
              refine ⟨_, rfl, _, _, rfl, rfl, _, rfl, ?_⟩
              refine iteD (fun c2848 => ?_) (fun c2848 => ?_)
              · have hw := cW_pos c2848 hw
                refine ⟨_, rfl, _, _, _, _, _, rfl, h2816, T.cl_Format, T.n_Format_chroma, rfl, _, _, rfl, rfl, _, rfl, ?_⟩
                refine iteD (fun c2849 => ?_) (fun c2849 => ?_)
                · have hw := cW_pos c2849 hw
                  have hw := cW_ok hw
                  have hw := hK2847 _ hw
                  exact ⟨(4), _, rfl, (Same.refl _), S2814, h2815, h2816, h2817, h2818, h2819, h2820, h2821, h2822, w2831, hw⟩
                · have hw := cW_neg c2849 hw
                  have hw := cW_ok hw
                  have hw := hK2847 _ hw
                  exact ⟨(8), _, rfl, (Same.refl _), S2814, h2815, h2816, h2817, h2818, h2819, h2820, h2821, h2822, w2831, hw⟩
              · have hw := cW_neg c2848 hw
                refine iteF ?_
                have hw := cW_ok hw
                have hw := hK2847 _ hw
                exact ⟨(8), _, rfl, (Same.refl _), S2814, h2815, h2816, h2817, h2818, h2819, h2820, h2821, h2822, w2831, hw⟩
            · intro σ H2850 hw
              obtain ⟨small_2845, G2861, rfl, eG2862, S2851, h2852, h2853, h2854, h2855, h2856, h2857, h2858, h2859, w2860, hw⟩ := hw
              unfold F_law_k7 at hw
              obtain ⟨g2863, hw⟩ := cW_grd hw
              obtain ⟨v2864, L2865, a2866, w2867, hs2868, up2869, gr2870⟩ := OwAll.partM (k := x2834) w2860 g2863
              obtain ⟨b2871, vs2872, L2873, rfl, rfl, h2874, w2875, nb2876⟩ := Ow.toList w2867
              refine ⟨_, rfl, _, rfl, _, _, _, _, rfl, rfl, (SqL.of h2859), a2866, _, rfl, _, rfl, _, rfl, _, rfl, _, _, _, rfl, h2853, G2861, _, _, v2441, rfl, S2851.sG, (hide_nil h2853), cW_callN hw (fun v2877 hw H2878 e2879 => ?_) trivial⟩
              have S2880 := S2851.same e2879
              have h2881 := (e2879 _ _ h2874)
              have w2882 : OwAll G2861 H2878 L2873 (vs2872) (((itD (due_2798) (x2834)) : (List (List Int))).map (oL oI)) := (OwAll.mono (Same.refl _) (keeps_same e2879) w2875)
              refine ⟨rfl, rfl, G2861, _, _, L2873, (itD (due_2798) (x2834)), _, _, _, _, _, rfl, S2880.sG, (S2880.gno (all_cons ((((fun b hb => (.tail _ (.tail _ (.tail _ (.tail _ (.tail _ (.tail _ (.tail _ (.tail _ (List.mem_append_left _ hb)))))))))) : ∀ b ∈ L2800, b ∈ (p2380 :: (x2430 :: (x2446 :: (x2467 :: (l2481 :: (l2482 :: (p2516 :: (a2766 :: (L2800 ++ [])))))))))) : ∀ b ∈ L2800, b ∈ (p2380 :: (x2430 :: (x2446 :: (x2467 :: (l2481 :: (l2482 :: (p2516 :: (a2766 :: (L2800 ++ [])))))))))) _ (hs2868 _ List.mem_cons_self)) (all_app (fun b hb => (((fun b hb => (.tail _ (.tail _ (.tail _ (.tail _ (.tail _ (.tail _ (.tail _ (.tail _ (List.mem_append_left _ hb)))))))))) : ∀ b ∈ L2800, b ∈ (p2380 :: (x2430 :: (x2446 :: (x2467 :: (l2481 :: (l2482 :: (p2516 :: (a2766 :: (L2800 ++ [])))))))))) : ∀ b ∈ L2800, b ∈ (p2380 :: (x2430 :: (x2446 :: (x2467 :: (l2481 :: (l2482 :: (p2516 :: (a2766 :: (L2800 ++ [])))))))))) b ((fun c hc => hs2868 c (List.mem_cons_of_mem _ hc)) b hb)) all_nil))), h2881, w2882, (nb2876 : ∀ b ∈ L2873, b ≠ b2871), (Rp.mono (S2880.hid (all_cons ((((fun b hb => (.tail _ (.tail _ (.tail _ (.tail _ (.tail _ (.tail _ (.tail _ (.tail _ (List.mem_append_left _ hb)))))))))) : ∀ b ∈ L2800, b ∈ (p2380 :: (x2430 :: (x2446 :: (x2467 :: (l2481 :: (l2482 :: (p2516 :: (a2766 :: (L2800 ++ [])))))))))) : ∀ b ∈ L2800, b ∈ (p2380 :: (x2430 :: (x2446 :: (x2467 :: (l2481 :: (l2482 :: (p2516 :: (a2766 :: (L2800 ++ [])))))))))) _ (hs2868 _ List.mem_cons_self)) (all_app (fun b hb => (((fun b hb => (.tail _ (.tail _ (.tail _ (.tail _ (.tail _ (.tail _ (.tail _ (.tail _ (List.mem_append_left _ hb)))))))))) : ∀ b ∈ L2800, b ∈ (p2380 :: (x2430 :: (x2446 :: (x2467 :: (l2481 :: (l2482 :: (p2516 :: (a2766 :: (L2800 ++ [])))))))))) : ∀ b ∈ L2800, b ∈ (p2380 :: (x2430 :: (x2446 :: (x2467 :: (l2481 :: (l2482 :: (p2516 :: (a2766 :: (L2800 ++ [])))))))))) b ((fun c hc => hs2868 c (List.mem_cons_of_mem _ hc)) b hb)) all_nil))) (rp_mk_list (eG2862 _ _ (eG2833 _ _ (eG2773 _ _ hg2749))) (RpAll.mono eG2862 (RpAll.mono eG2833 (RpAll.mono eG2773 (RpAll.mono eG2748 (RpAll.mono eG2736 d2721))))))), cW_call hw (fun v2883 hw H2887 G2890 vs2896 L2897 x2888 eG2891 sG2892 hn2893 pm2894 h2895 hs2898 gl2899 ne2901 w2900 => ?_) (fun e he => (hE e he).elim)⟩
              have w2906M : ∀ b ∈ (b2871 :: (L2873 ++ [])), b ∈ b2871 :: L2873 := (fun b hb => by simpa using hb)
              obtain ⟨L2904, hL2905, w29060⟩ := grow_call gr2870 w2860 eG2891 e2879 x2888 w2906M List.mem_cons_self (fun b hb => (hs2898 b hb).elim (fun z => .inl (List.mem_cons_of_mem _ z)) .inr) (Ow.list h2895 w2900 ne2901)
              have w2906 : OwAll G2890 H2887 L2904 (vs2799) ((setL (due_2798) (x2834) (v2883) : (List (List (List Int)))).map (oL (oL oI))) := w29060
              have S2889 : Sep _ _ _ G2890 H2887 (L2904 ++ (p2380 :: (x2430 :: (x2446 :: (x2467 :: (l2481 :: (l2482 :: (p2516 :: (a2766 :: []))))))))) := Sep.mutgrow S2880 x2888 (all_cons ((((fun b hb => (.tail _ (.tail _ (.tail _ (.tail _ (.tail _ (.tail _ (.tail _ (.tail _ (List.mem_append_left _ hb)))))))))) : ∀ b ∈ L2800, b ∈ (p2380 :: (x2430 :: (x2446 :: (x2467 :: (l2481 :: (l2482 :: (p2516 :: (a2766 :: (L2800 ++ [])))))))))) : ∀ b ∈ L2800, b ∈ (p2380 :: (x2430 :: (x2446 :: (x2467 :: (l2481 :: (l2482 :: (p2516 :: (a2766 :: (L2800 ++ [])))))))))) _ (hs2868 _ List.mem_cons_self)) (all_app (fun b hb => (((fun b hb => (.tail _ (.tail _ (.tail _ (.tail _ (.tail _ (.tail _ (.tail _ (.tail _ (List.mem_append_left _ hb)))))))))) : ∀ b ∈ L2800, b ∈ (p2380 :: (x2430 :: (x2446 :: (x2467 :: (l2481 :: (l2482 :: (p2516 :: (a2766 :: (L2800 ++ [])))))))))) : ∀ b ∈ L2800, b ∈ (p2380 :: (x2430 :: (x2446 :: (x2467 :: (l2481 :: (l2482 :: (p2516 :: (a2766 :: (L2800 ++ [])))))))))) b ((fun c hc => hs2868 c (List.mem_cons_of_mem _ hc)) b hb)) all_nil)) pm2894 eG2891 sG2892 hn2893 (all_app (fun b hb => (hL2905 b hb).elim (fun z => .inl ((((fun b hb => (.tail _ (.tail _ (.tail _ (.tail _ (.tail _ (.tail _ (.tail _ (.tail _ (List.mem_append_left _ hb)))))))))) : ∀ b ∈ L2800, b ∈ (p2380 :: (x2430 :: (x2446 :: (x2467 :: (l2481 :: (l2482 :: (p2516 :: (a2766 :: (L2800 ++ [])))))))))) : ∀ b ∈ L2800, b ∈ (p2380 :: (x2430 :: (x2446 :: (x2467 :: (l2481 :: (l2482 :: (p2516 :: (a2766 :: (L2800 ++ [])))))))))) b z)) (fun z => .inr ⟨z.2, gl2899 b z.1, OwAll.there w2906 b hb⟩)) (all_cons (.inl (.head _)) (all_cons (.inl (.tail _ (.head _))) (all_cons (.inl (.tail _ (.tail _ (.head _)))) (all_cons (.inl (.tail _ (.tail _ (.tail _ (.head _))))) (all_cons (.inl (.tail _ (.tail _ (.tail _ (.tail _ (.head _)))))) (all_cons (.inl (.tail _ (.tail _ (.tail _ (.tail _ (.tail _ (.head _))))))) (all_cons (.inl (.tail _ (.tail _ (.tail _ (.tail _ (.tail _ (.tail _ (.head _)))))))) (all_cons (.inl (.tail _ (.tail _ (.tail _ (.tail _ (.tail _ (.tail _ (.tail _ (.head _))))))))) all_nil)))))))))
              have hw := cW_bnd hw
              obtain ⟨g2908, hw⟩ := cW_grd hw
              obtain ⟨v2909, L2910, a2911, w2912, hs2913, up2914, gr2915⟩ := OwAll.partM (k := x2834) w2906 g2908
              have h2916 := (x2888 _ _ (e2879 _ _ h2859) (nm_cons (ne2830 _ (hs2868 _ List.mem_cons_self)).symm (nm_app (fun z => (fun b hb => (ne2830 : ∀ b ∈ L2800, b ≠ a2766) b ((fun c hc => hs2868 c (List.mem_cons_of_mem _ hc)) b hb)) _ z rfl) nm_nil)))
              obtain ⟨b2917, vs2918, L2919, rfl, rfl, h2920, w2921, nb2922⟩ := Ow.toList w2912
              refine ⟨_, rfl, _, rfl, _, _, _, _, rfl, rfl, (SqL.of h2916), a2911, rfl, rfl, G2890, _, _, rfl, S2889.sG, (Rp.hide_nil (rp_mk_list h2920 (OwAll.rpA w2921 (encO_L encO_I) S2889.sG))), cW_call hw (fun v2923 hw H2924 a2926 vs2927 L2928 G2929 n2930 nb2931 nd2932 e2925 eG2933 sG2934 hn2935 ga2936 gL2937 h2938 w2939 => ?_) (fun e he => (hE e he).elim)⟩
              have fr2940 := S2889.free n2930
              have S2941 : Sep _ _ _ _ H2924 (a2926 :: (L2928 ++ (L2904 ++ (p2380 :: (x2430 :: (x2446 :: (x2467 :: (l2481 :: (l2482 :: (p2516 :: (a2766 :: []))))))))))) := Sep.steptree S2889 e2925 eG2933 sG2934 hn2935 (a2926 :: L2928) (all_cons ⟨n2930, ga2936, some_ne h2938⟩ (fun b hb => ⟨nb2931 b hb, gL2937 b hb, OwAll.there w2939 b hb⟩))
              refine ⟨_, rfl, _, rfl, rfl, rfl, G2929, _, _, rfl, S2941.sG, (rp_mk_list (eG2933 _ _ (eG2891 _ _ (eG2862 _ _ (eG2833 _ _ (eG2773 _ _ hg2749))))) (RpAll.mono eG2933 (RpAll.mono eG2891 (RpAll.mono eG2862 (RpAll.mono eG2833 (RpAll.mono eG2773 (RpAll.mono eG2748 (RpAll.mono eG2736 d2721)))))))), cW_call hw (fun v2942 hw v2945 H2943 G2946 e2944 eG2947 sG2948 hn2949 r2950 => ?_) (fun e he => (hE e he).elim)⟩
              have S2951 := S2941.step e2944 eG2947 sG2948 hn2949
              obtain ⟨a2952, vs2953, rfl, h2954, d2955⟩ := rp_list r2950
              have h2956 := (e2944 _ _ (e2925 _ _ (x2888 _ _ (e2879 _ _ h2853) (nm_cons (ne2824 _ (hs2868 _ List.mem_cons_self)).symm (nm_app (fun z => (fun b hb => (ne2824 : ∀ b ∈ L2800, b ≠ x2430) b ((fun c hc => hs2868 c (List.mem_cons_of_mem _ hc)) b hb)) _ z rfl) nm_nil)))))
              refine ⟨_, rfl, _, rfl, _, rfl, _, _, _, rfl, h2956, G2946, _, _, v2441, rfl, S2951.sG, (hide_nil h2956), cW_callN hw (fun v2957 hw H2958 e2959 => ?_) trivial⟩
              have S2960 := S2951.same e2959
              have h2961 := (e2959 _ _ (e2944 _ _ h2938))
              have w2962 : OwAll G2946 H2958 L2928 (vs2927) ((v2923 : (List (List Int))).map (oL oI)) := (OwAll.mono eG2947 keeps_refl (OwAll.mono (Same.refl _) (keeps_same e2959) (OwAll.mono (Same.refl _) (keeps_same e2944) w2939)))
              refine ⟨rfl, rfl, G2946, _, _, L2928, v2923, _, _, _, _, _, rfl, S2960.sG, (S2960.gno (all_cons (.head _) (all_app ((fun b hb => (.tail _ (List.mem_append_left _ hb))) : ∀ b ∈ L2928, b ∈ (a2926 :: (L2928 ++ (L2904 ++ (p2380 :: (x2430 :: (x2446 :: (x2467 :: (l2481 :: (l2482 :: (p2516 :: (a2766 :: [])))))))))))) all_nil))), h2961, w2962, (nd2932 : ∀ b ∈ L2928, b ≠ a2926), (Rp.mono (S2960.hid (all_cons (.head _) (all_app ((fun b hb => (.tail _ (List.mem_append_left _ hb))) : ∀ b ∈ L2928, b ∈ (a2926 :: (L2928 ++ (L2904 ++ (p2380 :: (x2430 :: (x2446 :: (x2467 :: (l2481 :: (l2482 :: (p2516 :: (a2766 :: [])))))))))))) all_nil))) (rp_mk_list h2954 d2955)), cW_call hw (fun v2963 hw H2967 G2970 vs2976 L2977 x2968 eG2971 sG2972 hn2973 pm2974 h2975 hs2978 gl2979 ne2981 w2980 => ?_) (fun e he => (hE e he).elim)⟩
              have S2969 : Sep _ _ _ G2970 H2967 (L2977 ++ (a2926 :: (L2904 ++ (p2380 :: (x2430 :: (x2446 :: (x2467 :: (l2481 :: (l2482 :: (p2516 :: (a2766 :: []))))))))))) := Sep.mutgrow S2960 x2968 (all_cons (.head _) (all_app ((fun b hb => (.tail _ (List.mem_append_left _ hb))) : ∀ b ∈ L2928, b ∈ (a2926 :: (L2928 ++ (L2904 ++ (p2380 :: (x2430 :: (x2446 :: (x2467 :: (l2481 :: (l2482 :: (p2516 :: (a2766 :: [])))))))))))) all_nil)) pm2974 eG2971 sG2972 hn2973 (all_app (fun b hb => (hs2978 b hb).elim (fun z => .inl ((((fun b hb => (.tail _ (List.mem_append_left _ hb))) : ∀ b ∈ L2928, b ∈ (a2926 :: (L2928 ++ (L2904 ++ (p2380 :: (x2430 :: (x2446 :: (x2467 :: (l2481 :: (l2482 :: (p2516 :: (a2766 :: [])))))))))))) : ∀ b ∈ L2928, b ∈ (a2926 :: (L2928 ++ (L2904 ++ (p2380 :: (x2430 :: (x2446 :: (x2467 :: (l2481 :: (l2482 :: (p2516 :: (a2766 :: [])))))))))))) b z)) (fun z => .inr ⟨z, gl2979 b hb, OwAll.there w2980 b hb⟩)) (all_cons (.inl (.head _)) (all_app (fun b hb => .inl (((fun b hb => (.tail _ (List.mem_append_right _ (List.mem_append_left _ hb)))) : ∀ b ∈ L2904, b ∈ (a2926 :: (L2928 ++ (L2904 ++ (p2380 :: (x2430 :: (x2446 :: (x2467 :: (l2481 :: (l2482 :: (p2516 :: (a2766 :: [])))))))))))) b hb)) (all_cons (.inl (.tail _ (List.mem_append_right _ (List.mem_append_right _ (.head _))))) (all_cons (.inl (.tail _ (List.mem_append_right _ (List.mem_append_right _ (.tail _ (.head _)))))) (all_cons (.inl (.tail _ (List.mem_append_right _ (List.mem_append_right _ (.tail _ (.tail _ (.head _))))))) (all_cons (.inl (.tail _ (List.mem_append_right _ (List.mem_append_right _ (.tail _ (.tail _ (.tail _ (.head _)))))))) (all_cons (.inl (.tail _ (List.mem_append_right _ (List.mem_append_right _ (.tail _ (.tail _ (.tail _ (.tail _ (.head _))))))))) (all_cons (.inl (.tail _ (List.mem_append_right _ (List.mem_append_right _ (.tail _ (.tail _ (.tail _ (.tail _ (.tail _ (.head _)))))))))) (all_cons (.inl (.tail _ (List.mem_append_right _ (List.mem_append_right _ (.tail _ (.tail _ (.tail _ (.tail _ (.tail _ (.tail _ (.head _))))))))))) (all_cons (.inl (.tail _ (List.mem_append_right _ (List.mem_append_right _ (.tail _ (.tail _ (.tail _ (.tail _ (.tail _ (.tail _ (.tail _ (.head _)))))))))))) all_nil)))))))))))
              refine ⟨_, rfl, rfl, rfl, G2970, _, _, rfl, S2969.sG, (Rp.hide_nil (rp_mk_list h2975 (OwAll.rpA w2980 (encO_L encO_I) S2969.sG))), cW_call hw (fun v2984 hw H2985 a2987 vs2988 L2989 G2990 n2991 nb2992 nd2993 e2986 eG2994 sG2995 hn2996 ga2997 gL2998 h2999 w3000 => ?_) (fun e he => (hE e he).elim)⟩
              have fr3001 := S2969.free n2991
              have S3002 : Sep _ _ _ _ H2985 (a2987 :: (L2989 ++ (L2977 ++ (a2926 :: (L2904 ++ (p2380 :: (x2430 :: (x2446 :: (x2467 :: (l2481 :: (l2482 :: (p2516 :: (a2766 :: []))))))))))))) := Sep.steptree S2969 e2986 eG2994 sG2995 hn2996 (a2987 :: L2989) (all_cons ⟨n2991, ga2997, some_ne h2999⟩ (fun b hb => ⟨nb2992 b hb, gL2998 b hb, OwAll.there w3000 b hb⟩))
              obtain ⟨g3003, hw⟩ := cW_grd hw
              have w3004 : OwAll G2990 H2985 L2904 (vs2799) ((setL (due_2798) (x2834) (v2883) : (List (List (List Int)))).map (oL (oL oI))) := (OwAll.mono (Same.trans (Same.trans (Same.trans eG2933 eG2947) eG2971) eG2994) keeps_refl (OwAll.mono (Same.refl _) (keeps_same e2986) (OwAll.mono (Same.refl _) (keeps_muts x2968 ((fun b hb => (nm_cons ((there_ne (fun b_ hb_ => (S2889.ow b_ (((fun b hb => (List.mem_append_left _ hb)) : ∀ b ∈ L2904, b ∈ (L2904 ++ (p2380 :: (x2430 :: (x2446 :: (x2467 :: (l2481 :: (l2482 :: (p2516 :: (a2766 :: [])))))))))) b_ hb_)).2.1) n2930) b hb) (nm_app ((fun b hb => ((nl_symm (new_nl nb2931 (fun b_ hb_ => (S2889.ow b_ (((fun b hb => (List.mem_append_left _ hb)) : ∀ b ∈ L2904, b ∈ (L2904 ++ (p2380 :: (x2430 :: (x2446 :: (x2467 :: (l2481 :: (l2482 :: (p2516 :: (a2766 :: [])))))))))) b_ hb_)).2.1))) b hb)) b hb) nm_nil))) : ∀ b ∈ L2904, b ∉ (a2926 :: (L2928 ++ [])))) (OwAll.mono (Same.refl _) (keeps_same e2959) (OwAll.mono (Same.refl _) (keeps_same e2944) (OwAll.mono (Same.refl _) (keeps_same e2925) w2906))))))
              have h3005 := (e2986 _ _ (x2968 _ _ (e2959 _ _ (e2944 _ _ (e2925 _ _ h2916))) (nm_cons (ne_of_none h2916 n2930) (nm_app (fun z => (new_ne2 nb2931 (S2889.ow _ (List.mem_append_right _ (.tail _ (.tail _ (.tail _ (.tail _ (.tail _ (.tail _ (.tail _ (.head _)))))))))).2.1) _ z rfl) nm_nil))))
              refine ⟨_, rfl, _, rfl, _, _, _, _, rfl, rfl, h3005, (ixN_len w3004.lenM g3003), ?_⟩
              obtain ⟨L3006, hL3007, w3008⟩ := OwAll.setM w3004 g3003 (Ow.list h2999 w3000 (nd2993 : ∀ b ∈ L2989, b ≠ a2987)) ((all_cons (fun z => (there_ne (fun b_ hb_ => (S2969.ow b_ (((fun b hb => (List.mem_append_right _ (.tail _ (List.mem_append_left _ hb)))) : ∀ b ∈ L2904, b ∈ (L2977 ++ (a2926 :: (L2904 ++ (p2380 :: (x2430 :: (x2446 :: (x2467 :: (l2481 :: (l2482 :: (p2516 :: (a2766 :: [])))))))))))) b_ hb_)).2.1) n2991) _ z rfl) (fun b hb => ((new_nl nb2992 (fun b_ hb_ => (S2969.ow b_ (((fun b hb => (List.mem_append_right _ (.tail _ (List.mem_append_left _ hb)))) : ∀ b ∈ L2904, b ∈ (L2977 ++ (a2926 :: (L2904 ++ (p2380 :: (x2430 :: (x2446 :: (x2467 :: (l2481 :: (l2482 :: (p2516 :: (a2766 :: [])))))))))))) b_ hb_)).2.1)) b hb))) : ∀ b ∈ (a2987 :: L2989), b ∉ L2904)
              generalize g3010 : upd H2985 a2766 _ = H3011
              obtain ⟨x3012, h3013⟩ := gen_mut g3010
              have h3014 : H3011 a2766 = some (.lst ((vs2799).set ((ixN (vs2799).length (x2834)).getD 0) (V.ref a2987))) := h3013
              have S3015 := S3002.mut1 x3012 (.tail _ (List.mem_append_right _ (List.mem_append_right _ (.tail _ (List.mem_append_right _ (.tail _ (.tail _ (.tail _ (.tail _ (.tail _ (.tail _ (.tail _ (.head _))))))))))))) h3014
              have w3009 : OwAll G2990 H3011 L3006 ((vs2799).set ((ixN (vs2799).length (x2834)).getD 0) (V.ref a2987)) ((setL (setL (due_2798) (x2834) (v2883)) (x2834) (v2984) : (List (List (List Int)))).map (oL (oL oI))) := OwAll.mono (Same.refl _) (keeps_mut x3012 ((fun b hb => ((all_app (grown_ne (fun b hb => (hL2905 b hb).elim .inl (fun z => .inr z.2)) (ne2830 : ∀ b ∈ L2800, b ≠ a2766) (S2880.ow _ (.tail _ (.tail _ (.tail _ (.tail _ (.tail _ (.tail _ (.tail _ (.head _))))))))).2.1) (all_cons (ne_of_none (x2968 _ _ (e2959 _ _ (e2944 _ _ (e2925 _ _ h2916))) (nm_cons (ne_of_none h2916 n2930) (nm_app (fun z => (new_ne2 nb2931 (S2889.ow _ (List.mem_append_right _ (.tail _ (.tail _ (.tail _ (.tail _ (.tail _ (.tail _ (.tail _ (.head _)))))))))).2.1) _ z rfl) nm_nil))) n2991).symm (new_ne2 nb2992 (S2969.ow _ (List.mem_append_right _ (.tail _ (List.mem_append_right _ (.tail _ (.tail _ (.tail _ (.tail _ (.tail _ (.tail _ (.tail _ (.head _)))))))))))).2.1))) : ∀ b ∈ (L2904 ++ (a2987 :: L2989)), b ≠ a2766) b (hL3007 b hb)) : ∀ b ∈ L3006, b ≠ a2766)) w3008
              have hw := cW_bnd hw
              have hw := cW_ok hw
              have hw := hK2837 _ hw
              have h3017 := (x3012 _ _ (e2986 _ _ (x2968 _ _ (e2959 _ _ (e2944 _ _ (e2925 _ _ (x2888 _ _ (e2879 _ _ h2852) (nm_cons (ne2823 _ (hs2868 _ List.mem_cons_self)).symm (nm_app (fun z => (fun b hb => (ne2823 : ∀ b ∈ L2800, b ≠ p2380) b ((fun c hc => hs2868 c (List.mem_cons_of_mem _ hc)) b hb)) _ z rfl) nm_nil)))))) (nm_cons (ne_of_none (x2888 _ _ (e2879 _ _ h2852) (nm_cons (ne2823 _ (hs2868 _ List.mem_cons_self)).symm (nm_app (fun z => (fun b hb => (ne2823 : ∀ b ∈ L2800, b ≠ p2380) b ((fun c hc => hs2868 c (List.mem_cons_of_mem _ hc)) b hb)) _ z rfl) nm_nil))) n2930) (nm_app (fun z => (new_ne2 nb2931 (S2889.ow _ (List.mem_append_right _ (.head _))).2.1) _ z rfl) nm_nil)))) (ne_of_none (e2756 _ _ (e2733 _ _ (e2728 _ _ h2713))) n2770))
              have h3018 := (x3012 _ _ (e2986 _ _ (x2968 _ _ (e2959 _ _ h2956) (nm_cons (ne_of_none (x2888 _ _ (e2879 _ _ h2853) (nm_cons (ne2824 _ (hs2868 _ List.mem_cons_self)).symm (nm_app (fun z => (fun b hb => (ne2824 : ∀ b ∈ L2800, b ≠ x2430) b ((fun c hc => hs2868 c (List.mem_cons_of_mem _ hc)) b hb)) _ z rfl) nm_nil))) n2930) (nm_app (fun z => (new_ne2 nb2931 (S2889.ow _ (List.mem_append_right _ (.tail _ (.head _)))).2.1) _ z rfl) nm_nil)))) (ne_of_none (e2756 _ _ (e2733 _ _ h2730)) n2770))
              have h3019 := (x3012 _ _ (e2986 _ _ (x2968 _ _ (e2959 _ _ (e2944 _ _ (e2925 _ _ (x2888 _ _ (e2879 _ _ h2854) (nm_cons (ne2825 _ (hs2868 _ List.mem_cons_self)).symm (nm_app (fun z => (fun b hb => (ne2825 : ∀ b ∈ L2800, b ≠ x2446) b ((fun c hc => hs2868 c (List.mem_cons_of_mem _ hc)) b hb)) _ z rfl) nm_nil)))))) (nm_cons (ne_of_none (x2888 _ _ (e2879 _ _ h2854) (nm_cons (ne2825 _ (hs2868 _ List.mem_cons_self)).symm (nm_app (fun z => (fun b hb => (ne2825 : ∀ b ∈ L2800, b ≠ x2446) b ((fun c hc => hs2868 c (List.mem_cons_of_mem _ hc)) b hb)) _ z rfl) nm_nil))) n2930) (nm_app (fun z => (new_ne2 nb2931 (S2889.ow _ (List.mem_append_right _ (.tail _ (.tail _ (.head _))))).2.1) _ z rfl) nm_nil)))) (ne_of_none (e2756 _ _ (e2733 _ _ (e2728 _ _ h2715))) n2770))
              have h3020 := (x3012 _ _ (e2986 _ _ (x2968 _ _ (e2959 _ _ (e2944 _ _ (e2925 _ _ (x2888 _ _ (e2879 _ _ h2855) (nm_cons (ne2826 _ (hs2868 _ List.mem_cons_self)).symm (nm_app (fun z => (fun b hb => (ne2826 : ∀ b ∈ L2800, b ≠ x2467) b ((fun c hc => hs2868 c (List.mem_cons_of_mem _ hc)) b hb)) _ z rfl) nm_nil)))))) (nm_cons (ne_of_none (x2888 _ _ (e2879 _ _ h2855) (nm_cons (ne2826 _ (hs2868 _ List.mem_cons_self)).symm (nm_app (fun z => (fun b hb => (ne2826 : ∀ b ∈ L2800, b ≠ x2467) b ((fun c hc => hs2868 c (List.mem_cons_of_mem _ hc)) b hb)) _ z rfl) nm_nil))) n2930) (nm_app (fun z => (new_ne2 nb2931 (S2889.ow _ (List.mem_append_right _ (.tail _ (.tail _ (.tail _ (.head _)))))).2.1) _ z rfl) nm_nil)))) (ne_of_none (e2756 _ _ (e2733 _ _ (e2728 _ _ h2716))) n2770))
              have h3021 := (x3012 _ _ (e2986 _ _ (x2968 _ _ (e2959 _ _ (e2944 _ _ (e2925 _ _ (x2888 _ _ (e2879 _ _ h2856) (nm_cons (ne2827 _ (hs2868 _ List.mem_cons_self)).symm (nm_app (fun z => (fun b hb => (ne2827 : ∀ b ∈ L2800, b ≠ l2481) b ((fun c hc => hs2868 c (List.mem_cons_of_mem _ hc)) b hb)) _ z rfl) nm_nil)))))) (nm_cons (ne_of_none (x2888 _ _ (e2879 _ _ h2856) (nm_cons (ne2827 _ (hs2868 _ List.mem_cons_self)).symm (nm_app (fun z => (fun b hb => (ne2827 : ∀ b ∈ L2800, b ≠ l2481) b ((fun c hc => hs2868 c (List.mem_cons_of_mem _ hc)) b hb)) _ z rfl) nm_nil))) n2930) (nm_app (fun z => (new_ne2 nb2931 (S2889.ow _ (List.mem_append_right _ (.tail _ (.tail _ (.tail _ (.tail _ (.head _))))))).2.1) _ z rfl) nm_nil)))) (ne_of_none (e2756 _ _ (e2733 _ _ (e2728 _ _ h2717))) n2770))
              have h3022 := (x3012 _ _ (e2986 _ _ (x2968 _ _ (e2959 _ _ (e2944 _ _ (e2925 _ _ (x2888 _ _ (e2879 _ _ h2857) (nm_cons (ne2828 _ (hs2868 _ List.mem_cons_self)).symm (nm_app (fun z => (fun b hb => (ne2828 : ∀ b ∈ L2800, b ≠ l2482) b ((fun c hc => hs2868 c (List.mem_cons_of_mem _ hc)) b hb)) _ z rfl) nm_nil)))))) (nm_cons (ne_of_none (x2888 _ _ (e2879 _ _ h2857) (nm_cons (ne2828 _ (hs2868 _ List.mem_cons_self)).symm (nm_app (fun z => (fun b hb => (ne2828 : ∀ b ∈ L2800, b ≠ l2482) b ((fun c hc => hs2868 c (List.mem_cons_of_mem _ hc)) b hb)) _ z rfl) nm_nil))) n2930) (nm_app (fun z => (new_ne2 nb2931 (S2889.ow _ (List.mem_append_right _ (.tail _ (.tail _ (.tail _ (.tail _ (.tail _ (.head _)))))))).2.1) _ z rfl) nm_nil)))) (ne_of_none (e2756 _ _ (e2733 _ _ (e2728 _ _ h2718))) n2770))
              have h3023 := (x3012 _ _ (e2986 _ _ (x2968 _ _ (e2959 _ _ (e2944 _ _ (e2925 _ _ (x2888 _ _ (e2879 _ _ h2858) (nm_cons (ne2829 _ (hs2868 _ List.mem_cons_self)).symm (nm_app (fun z => (fun b hb => (ne2829 : ∀ b ∈ L2800, b ≠ p2516) b ((fun c hc => hs2868 c (List.mem_cons_of_mem _ hc)) b hb)) _ z rfl) nm_nil)))))) (nm_cons (ne_of_none (x2888 _ _ (e2879 _ _ h2858) (nm_cons (ne2829 _ (hs2868 _ List.mem_cons_self)).symm (nm_app (fun z => (fun b hb => (ne2829 : ∀ b ∈ L2800, b ≠ p2516) b ((fun c hc => hs2868 c (List.mem_cons_of_mem _ hc)) b hb)) _ z rfl) nm_nil))) n2930) (nm_app (fun z => (new_ne2 nb2931 (S2889.ow _ (List.mem_append_right _ (.tail _ (.tail _ (.tail _ (.tail _ (.tail _ (.tail _ (.head _))))))))).2.1) _ z rfl) nm_nil)))) (ne_of_none (e2756 _ _ (e2733 _ _ (e2728 _ _ h2719))) n2770))
              exact ⟨(setL (setL (due_2798) (x2834) (v2883)) (x2834) (v2984)), ((vs2799).set ((ixN (vs2799).length (x2834)).getD 0) (V.ref a2987)), L3006, _, _, _, _, rfl, (Same.trans (Same.trans (Same.trans (Same.trans (Same.trans (Same.trans eG2833 eG2862) eG2891) eG2933) eG2947) eG2971) eG2994), (S3015.sub (all_cons (.tail _ (List.mem_append_right _ (List.mem_append_right _ (.tail _ (List.mem_append_right _ (.head _)))))) (all_cons (.tail _ (List.mem_append_right _ (List.mem_append_right _ (.tail _ (List.mem_append_right _ (.tail _ (.head _))))))) (all_cons (.tail _ (List.mem_append_right _ (List.mem_append_right _ (.tail _ (List.mem_append_right _ (.tail _ (.tail _ (.head _)))))))) (all_cons (.tail _ (List.mem_append_right _ (List.mem_append_right _ (.tail _ (List.mem_append_right _ (.tail _ (.tail _ (.tail _ (.head _))))))))) (all_cons (.tail _ (List.mem_append_right _ (List.mem_append_right _ (.tail _ (List.mem_append_right _ (.tail _ (.tail _ (.tail _ (.tail _ (.head _)))))))))) (all_cons (.tail _ (List.mem_append_right _ (List.mem_append_right _ (.tail _ (List.mem_append_right _ (.tail _ (.tail _ (.tail _ (.tail _ (.tail _ (.head _))))))))))) (all_cons (.tail _ (List.mem_append_right _ (List.mem_append_right _ (.tail _ (List.mem_append_right _ (.tail _ (.tail _ (.tail _ (.tail _ (.tail _ (.tail _ (.head _)))))))))))) (all_cons (.tail _ (List.mem_append_right _ (List.mem_append_right _ (.tail _ (List.mem_append_right _ (.tail _ (.tail _ (.tail _ (.tail _ (.tail _ (.tail _ (.tail _ (.head _))))))))))))) (all_app (fun b hb => ((all_app ((fun b hb => (.tail _ (List.mem_append_right _ (List.mem_append_right _ (.tail _ (List.mem_append_left _ hb)))))) : ∀ b ∈ L2904, b ∈ (a2987 :: (L2989 ++ (L2977 ++ (a2926 :: (L2904 ++ (p2380 :: (x2430 :: (x2446 :: (x2467 :: (l2481 :: (l2482 :: (p2516 :: (a2766 :: [])))))))))))))) (all_cons (.head _) ((fun b hb => (.tail _ (List.mem_append_left _ hb))) : ∀ b ∈ L2989, b ∈ (a2987 :: (L2989 ++ (L2977 ++ (a2926 :: (L2904 ++ (p2380 :: (x2430 :: (x2446 :: (x2467 :: (l2481 :: (l2482 :: (p2516 :: (a2766 :: [])))))))))))))))) : ∀ b ∈ (L2904 ++ (a2987 :: L2989)), b ∈ (a2987 :: (L2989 ++ (L2977 ++ (a2926 :: (L2904 ++ (p2380 :: (x2430 :: (x2446 :: (x2467 :: (l2481 :: (l2482 :: (p2516 :: (a2766 :: [])))))))))))))) b (hL3007 b hb)) all_nil)))))))))), h3017, h3018, h3019, h3020, h3021, h3022, h3023, h3014, (fun b hb => ((all_app (grown_ne (fun b hb => (hL2905 b hb).elim .inl (fun z => .inr z.2)) (ne2823 : ∀ b ∈ L2800, b ≠ p2380) (S2880.ow _ (.head _)).2.1) (all_cons (ne_of_none (x2968 _ _ (e2959 _ _ (e2944 _ _ (e2925 _ _ (x2888 _ _ (e2879 _ _ h2852) (nm_cons (ne2823 _ (hs2868 _ List.mem_cons_self)).symm (nm_app (fun z => (fun b hb => (ne2823 : ∀ b ∈ L2800, b ≠ p2380) b ((fun c hc => hs2868 c (List.mem_cons_of_mem _ hc)) b hb)) _ z rfl) nm_nil)))))) (nm_cons (ne_of_none (x2888 _ _ (e2879 _ _ h2852) (nm_cons (ne2823 _ (hs2868 _ List.mem_cons_self)).symm (nm_app (fun z => (fun b hb => (ne2823 : ∀ b ∈ L2800, b ≠ p2380) b ((fun c hc => hs2868 c (List.mem_cons_of_mem _ hc)) b hb)) _ z rfl) nm_nil))) n2930) (nm_app (fun z => (new_ne2 nb2931 (S2889.ow _ (List.mem_append_right _ (.head _))).2.1) _ z rfl) nm_nil))) n2991).symm (new_ne2 nb2992 (S2969.ow _ (List.mem_append_right _ (.tail _ (List.mem_append_right _ (.head _))))).2.1))) : ∀ b ∈ (L2904 ++ (a2987 :: L2989)), b ≠ p2380) b (hL3007 b hb)), (fun b hb => ((all_app (grown_ne (fun b hb => (hL2905 b hb).elim .inl (fun z => .inr z.2)) (ne2824 : ∀ b ∈ L2800, b ≠ x2430) (S2880.ow _ (.tail _ (.head _))).2.1) (all_cons (ne_of_none (x2968 _ _ (e2959 _ _ h2956) (nm_cons (ne_of_none (x2888 _ _ (e2879 _ _ h2853) (nm_cons (ne2824 _ (hs2868 _ List.mem_cons_self)).symm (nm_app (fun z => (fun b hb => (ne2824 : ∀ b ∈ L2800, b ≠ x2430) b ((fun c hc => hs2868 c (List.mem_cons_of_mem _ hc)) b hb)) _ z rfl) nm_nil))) n2930) (nm_app (fun z => (new_ne2 nb2931 (S2889.ow _ (List.mem_append_right _ (.tail _ (.head _)))).2.1) _ z rfl) nm_nil))) n2991).symm (new_ne2 nb2992 (S2969.ow _ (List.mem_append_right _ (.tail _ (List.mem_append_right _ (.tail _ (.head _)))))).2.1))) : ∀ b ∈ (L2904 ++ (a2987 :: L2989)), b ≠ x2430) b (hL3007 b hb)), (fun b hb => ((all_app (grown_ne (fun b hb => (hL2905 b hb).elim .inl (fun z => .inr z.2)) (ne2825 : ∀ b ∈ L2800, b ≠ x2446) (S2880.ow _ (.tail _ (.tail _ (.head _)))).2.1) (all_cons (ne_of_none (x2968 _ _ (e2959 _ _ (e2944 _ _ (e2925 _ _ (x2888 _ _ (e2879 _ _ h2854) (nm_cons (ne2825 _ (hs2868 _ List.mem_cons_self)).symm (nm_app (fun z => (fun b hb => (ne2825 : ∀ b ∈ L2800, b ≠ x2446) b ((fun c hc => hs2868 c (List.mem_cons_of_mem _ hc)) b hb)) _ z rfl) nm_nil)))))) (nm_cons (ne_of_none (x2888 _ _ (e2879 _ _ h2854) (nm_cons (ne2825 _ (hs2868 _ List.mem_cons_self)).symm (nm_app (fun z => (fun b hb => (ne2825 : ∀ b ∈ L2800, b ≠ x2446) b ((fun c hc => hs2868 c (List.mem_cons_of_mem _ hc)) b hb)) _ z rfl) nm_nil))) n2930) (nm_app (fun z => (new_ne2 nb2931 (S2889.ow _ (List.mem_append_right _ (.tail _ (.tail _ (.head _))))).2.1) _ z rfl) nm_nil))) n2991).symm (new_ne2 nb2992 (S2969.ow _ (List.mem_append_right _ (.tail _ (List.mem_append_right _ (.tail _ (.tail _ (.head _))))))).2.1))) : ∀ b ∈ (L2904 ++ (a2987 :: L2989)), b ≠ x2446) b (hL3007 b hb)), (fun b hb => ((all_app (grown_ne (fun b hb => (hL2905 b hb).elim .inl (fun z => .inr z.2)) (ne2826 : ∀ b ∈ L2800, b ≠ x2467) (S2880.ow _ (.tail _ (.tail _ (.tail _ (.head _))))).2.1) (all_cons (ne_of_none (x2968 _ _ (e2959 _ _ (e2944 _ _ (e2925 _ _ (x2888 _ _ (e2879 _ _ h2855) (nm_cons (ne2826 _ (hs2868 _ List.mem_cons_self)).symm (nm_app (fun z => (fun b hb => (ne2826 : ∀ b ∈ L2800, b ≠ x2467) b ((fun c hc => hs2868 c (List.mem_cons_of_mem _ hc)) b hb)) _ z rfl) nm_nil)))))) (nm_cons (ne_of_none (x2888 _ _ (e2879 _ _ h2855) (nm_cons (ne2826 _ (hs2868 _ List.mem_cons_self)).symm (nm_app (fun z => (fun b hb => (ne2826 : ∀ b ∈ L2800, b ≠ x2467) b ((fun c hc => hs2868 c (List.mem_cons_of_mem _ hc)) b hb)) _ z rfl) nm_nil))) n2930) (nm_app (fun z => (new_ne2 nb2931 (S2889.ow _ (List.mem_append_right _ (.tail _ (.tail _ (.tail _ (.head _)))))).2.1) _ z rfl) nm_nil))) n2991).symm (new_ne2 nb2992 (S2969.ow _ (List.mem_append_right _ (.tail _ (List.mem_append_right _ (.tail _ (.tail _ (.tail _ (.head _)))))))).2.1))) : ∀ b ∈ (L2904 ++ (a2987 :: L2989)), b ≠ x2467) b (hL3007 b hb)), (fun b hb => ((all_app (grown_ne (fun b hb => (hL2905 b hb).elim .inl (fun z => .inr z.2)) (ne2827 : ∀ b ∈ L2800, b ≠ l2481) (S2880.ow _ (.tail _ (.tail _ (.tail _ (.tail _ (.head _)))))).2.1) (all_cons (ne_of_none (x2968 _ _ (e2959 _ _ (e2944 _ _ (e2925 _ _ (x2888 _ _ (e2879 _ _ h2856) (nm_cons (ne2827 _ (hs2868 _ List.mem_cons_self)).symm (nm_app (fun z => (fun b hb => (ne2827 : ∀ b ∈ L2800, b ≠ l2481) b ((fun c hc => hs2868 c (List.mem_cons_of_mem _ hc)) b hb)) _ z rfl) nm_nil)))))) (nm_cons (ne_of_none (x2888 _ _ (e2879 _ _ h2856) (nm_cons (ne2827 _ (hs2868 _ List.mem_cons_self)).symm (nm_app (fun z => (fun b hb => (ne2827 : ∀ b ∈ L2800, b ≠ l2481) b ((fun c hc => hs2868 c (List.mem_cons_of_mem _ hc)) b hb)) _ z rfl) nm_nil))) n2930) (nm_app (fun z => (new_ne2 nb2931 (S2889.ow _ (List.mem_append_right _ (.tail _ (.tail _ (.tail _ (.tail _ (.head _))))))).2.1) _ z rfl) nm_nil))) n2991).symm (new_ne2 nb2992 (S2969.ow _ (List.mem_append_right _ (.tail _ (List.mem_append_right _ (.tail _ (.tail _ (.tail _ (.tail _ (.head _))))))))).2.1))) : ∀ b ∈ (L2904 ++ (a2987 :: L2989)), b ≠ l2481) b (hL3007 b hb)), (fun b hb => ((all_app (grown_ne (fun b hb => (hL2905 b hb).elim .inl (fun z => .inr z.2)) (ne2828 : ∀ b ∈ L2800, b ≠ l2482) (S2880.ow _ (.tail _ (.tail _ (.tail _ (.tail _ (.tail _ (.head _))))))).2.1) (all_cons (ne_of_none (x2968 _ _ (e2959 _ _ (e2944 _ _ (e2925 _ _ (x2888 _ _ (e2879 _ _ h2857) (nm_cons (ne2828 _ (hs2868 _ List.mem_cons_self)).symm (nm_app (fun z => (fun b hb => (ne2828 : ∀ b ∈ L2800, b ≠ l2482) b ((fun c hc => hs2868 c (List.mem_cons_of_mem _ hc)) b hb)) _ z rfl) nm_nil)))))) (nm_cons (ne_of_none (x2888 _ _ (e2879 _ _ h2857) (nm_cons (ne2828 _ (hs2868 _ List.mem_cons_self)).symm (nm_app (fun z => (fun b hb => (ne2828 : ∀ b ∈ L2800, b ≠ l2482) b ((fun c hc => hs2868 c (List.mem_cons_of_mem _ hc)) b hb)) _ z rfl) nm_nil))) n2930) (nm_app (fun z => (new_ne2 nb2931 (S2889.ow _ (List.mem_append_right _ (.tail _ (.tail _ (.tail _ (.tail _ (.tail _ (.head _)))))))).2.1) _ z rfl) nm_nil))) n2991).symm (new_ne2 nb2992 (S2969.ow _ (List.mem_append_right _ (.tail _ (List.mem_append_right _ (.tail _ (.tail _ (.tail _ (.tail _ (.tail _ (.head _)))))))))).2.1))) : ∀ b ∈ (L2904 ++ (a2987 :: L2989)), b ≠ l2482) b (hL3007 b hb)), (fun b hb => ((all_app (grown_ne (fun b hb => (hL2905 b hb).elim .inl (fun z => .inr z.2)) (ne2829 : ∀ b ∈ L2800, b ≠ p2516) (S2880.ow _ (.tail _ (.tail _ (.tail _ (.tail _ (.tail _ (.tail _ (.head _)))))))).2.1) (all_cons (ne_of_none (x2968 _ _ (e2959 _ _ (e2944 _ _ (e2925 _ _ (x2888 _ _ (e2879 _ _ h2858) (nm_cons (ne2829 _ (hs2868 _ List.mem_cons_self)).symm (nm_app (fun z => (fun b hb => (ne2829 : ∀ b ∈ L2800, b ≠ p2516) b ((fun c hc => hs2868 c (List.mem_cons_of_mem _ hc)) b hb)) _ z rfl) nm_nil)))))) (nm_cons (ne_of_none (x2888 _ _ (e2879 _ _ h2858) (nm_cons (ne2829 _ (hs2868 _ List.mem_cons_self)).symm (nm_app (fun z => (fun b hb => (ne2829 : ∀ b ∈ L2800, b ≠ p2516) b ((fun c hc => hs2868 c (List.mem_cons_of_mem _ hc)) b hb)) _ z rfl) nm_nil))) n2930) (nm_app (fun z => (new_ne2 nb2931 (S2889.ow _ (List.mem_append_right _ (.tail _ (.tail _ (.tail _ (.tail _ (.tail _ (.tail _ (.head _))))))))).2.1) _ z rfl) nm_nil))) n2991).symm (new_ne2 nb2992 (S2969.ow _ (List.mem_append_right _ (.tail _ (List.mem_append_right _ (.tail _ (.tail _ (.tail _ (.tail _ (.tail _ (.tail _ (.head _))))))))))).2.1))) : ∀ b ∈ (L2904 ++ (a2987 :: L2989)), b ≠ p2516) b (hL3007 b hb)), (fun b hb => ((all_app (grown_ne (fun b hb => (hL2905 b hb).elim .inl (fun z => .inr z.2)) (ne2830 : ∀ b ∈ L2800, b ≠ a2766) (S2880.ow _ (.tail _ (.tail _ (.tail _ (.tail _ (.tail _ (.tail _ (.tail _ (.head _))))))))).2.1) (all_cons (ne_of_none (x2968 _ _ (e2959 _ _ (e2944 _ _ (e2925 _ _ h2916))) (nm_cons (ne_of_none h2916 n2930) (nm_app (fun z => (new_ne2 nb2931 (S2889.ow _ (List.mem_append_right _ (.tail _ (.tail _ (.tail _ (.tail _ (.tail _ (.tail _ (.tail _ (.head _)))))))))).2.1) _ z rfl) nm_nil))) n2991).symm (new_ne2 nb2992 (S2969.ow _ (List.mem_append_right _ (.tail _ (List.mem_append_right _ (.tail _ (.tail _ (.tail _ (.tail _ (.tail _ (.tail _ (.tail _ (.head _)))))))))))).2.1))) : ∀ b ∈ (L2904 ++ (a2987 :: L2989)), b ≠ a2766) b (hL3007 b hb)), w3009, hw⟩
          · intro σ H3024 hw
            obtain ⟨due_2798, vs2799, L2800, u2801, u2802, u2803, G3043, rfl, eG3044, S3025, h3026, h3027, h3028, h3029, h3030, h3031, h3032, h3033, ne3034, ne3035, ne3036, ne3037, ne3038, ne3039, ne3040, ne3041, w3042, hw⟩ := hw
            have hw := hK2797 _ (cW_forS0 (rng_len _ _).symm hw)
            have hw : cW (F_law_r6 (v2441) ((⟨v2480.number, v2480.kind, v2480.level, v2480.store, v2480.refs, v2480.weight, v2480.layer, v2480.shown, v2480.edge⟩ : St_PictureHeader)) (blocks_2541) (v2731) ((PyData.shown ((encL encD) ([((encL (encL (encL PyData.int))) (v2731)), ((encL (encL (encT2 PyData.int PyData.bool))) (blocks_2541))])))) (due_2798)) _ EE := hw
            unfold F_law_r6 at hw
            refine ⟨_, rfl, _, rfl, _, rfl, _, rfl, rfl, rfl, G3043, _, _, v2441, _, _, _, _, (⟨v2480.number, v2480.kind, v2480.level, v2480.store, v2480.refs, v2480.weight, v2480.layer, v2480.shown, v2480.edge⟩ : St_PictureHeader), _, _, _, _, rfl, S3025.sG, (hide_nil h3027), (hide_nil h3029), (hide_nil h3030), (hide_nil h3031), (Rp.hide_nil (rp_mk_list (S3025.sG _ _ (eG3044 _ _ (eG2773 _ _ (eG2748 _ _ h2743)))) (RpAll.mono S3025.sG (RpAll.mono eG3044 (RpAll.mono eG2773 (RpAll.mono eG2748 d2744)))))), (rp_mk_list (eG3044 _ _ (eG2773 _ _ hg2749)) (RpAll.mono eG3044 (RpAll.mono eG2773 (RpAll.mono eG2748 (RpAll.mono eG2736 d2721))))), cW_call hw (fun v3046 hw H3047 a3049 vs3050 L3051 G3052 n3053 nb3054 nd3055 e3048 eG3056 sG3057 hn3058 ga3059 gL3060 h3061 w3062 => ?_) (fun e he => (hE e he).elim)⟩
            have fr3063 := S3025.free n3053
            have S3064 : Sep _ _ _ _ H3047 (a3049 :: (L3051 ++ (p2380 :: (x2430 :: (x2446 :: (x2467 :: (l2481 :: (l2482 :: (p2516 :: (a2766 :: (L2800 ++ []))))))))))) := Sep.steptree S3025 e3048 eG3056 sG3057 hn3058 (a3049 :: L3051) (all_cons ⟨n3053, ga3059, some_ne h3061⟩ (fun b hb => ⟨nb3054 b hb, gL3060 b hb, OwAll.there w3062 b hb⟩))
            refine ⟨_, rfl, _, rfl, ?_⟩
            have r3065 : Rp G3052 (V.ref a2741) (encD ((encL (encL (encL PyData.int))) (v2731))) := (rp_mk_list (eG3056 _ _ (eG3044 _ _ (eG2773 _ _ (eG2748 _ _ h2743)))) (RpAll.mono eG3056 (RpAll.mono eG3044 (RpAll.mono eG2773 (RpAll.mono eG2748 d2744)))))
            have r3066 : Rp G3052 (V.ref p2522) (encD ((encL (encL (encT2 PyData.int PyData.bool))) (blocks_2541))) := (rp_mk_list (eG3056 _ _ (eG3044 _ _ (eG2773 _ _ hg2749))) (RpAll.mono eG3056 (RpAll.mono eG3044 (RpAll.mono eG2773 (RpAll.mono eG2748 (RpAll.mono eG2736 d2721))))))
            refine ⟨(by show 2 ≤ sizeLine; decide), fun p3067 n3068 => ?_⟩
            generalize g3069 : upd H3047 p3067 _ = H3070
            obtain ⟨e3071, h3072⟩ := gen_new n3068 g3069
            have h3073 : H3070 p3067 = some (.lst ([(V.ref a2741), (V.ref p2522)])) := h3072
            have fr3074 := S3064.free n3068
            have S3075 := S3064.new n3068 e3071 h3073 fr3074
            have d3076 : RpAll G3052 ([(V.ref a2741), (V.ref p2522)]) (([((encL (encL (encL PyData.int))) (v2731)), ((encL (encL (encT2 PyData.int PyData.bool))) (blocks_2541))] : (List PyData)).map encD) := (RpAll.cons r3065 (RpAll.cons r3066 RpAll.nil))
            obtain ⟨g3077, hw⟩ := cW_grd hw
            refine ⟨_, ((encL encD) ([((encL (encL (encL PyData.int))) (v2731)), ((encL (encL (encT2 PyData.int PyData.bool))) (blocks_2541))])), rfl, (rp_mk_list h3073 (RpAll.mono S3075.sG d3076)), g3077, _, rfl, rfl, _, rfl, ?_⟩
            refine iteN (fun c3078 => ?_) (fun c3078 => ?_)
            · have hw := cW_neg c3078 hw
              refine iteT ?_
              have hw := cW_ok hw
              exact eq_bl (k _) (hK0 _ hw).symm
            · have hw := cW_pos c3078 hw
              have h3079 := (e3071 _ _ h3061)
              refine ⟨_, rfl, _, _, _, _, _, rfl, (.ty _), (.base (.lst h3079)), rfl, _, rfl, ?_⟩
              refine iteF ?_
              have w3080 : OwAll G3052 H3070 L3051 (vs3050) ((v3046 : (List (List (List Int)))).map (oL (oL oI))) := (OwAll.mono (Same.refl _) (keeps_same e3071) w3062)
              have h3081 := (e3071 _ _ (e3048 _ _ h3033))
              have w3082 : OwAll G3052 H3070 L2800 (vs2799) ((due_2798 : (List (List (List Int)))).map (oL (oL oI))) := (OwAll.mono eG3056 keeps_refl (OwAll.mono (Same.refl _) (keeps_same e3071) (OwAll.mono (Same.refl _) (keeps_same e3048) w3042)))
              refine ⟨_, rfl, _, rfl, _, _, (rp_mk_list h3079 (OwAll.rpA w3080 (encO_L (encO_L encO_I)) S3075.sG)), (rp_mk_list h3081 (OwAll.rpA w3082 (encO_L (encO_L encO_I)) S3075.sG)), _, rfl, ?_⟩
              refine iteN (fun c3083 => ?_) (fun c3083 => ?_)
              · have hw := cW_neg c3083 hw
                have hw := cW_ok hw
                exact eq_bl (k _) (hK0 _ hw).symm
              · have hw := cW_pos c3083 hw
                have h3084 := (e3071 _ _ (e3048 _ _ h3027))
                refine ⟨_, rfl, _, _, _, rfl, h3084, G3052, _, _, v2441, rfl, S3075.sG, (hide_nil h3084), cW_callN hw (fun v3085 hw H3086 e3087 => ?_) trivial⟩
                have S3088 := S3075.same e3087
                obtain ⟨g3089, hw⟩ := cW_grd hw
                obtain ⟨K3096, hK3097, hw⟩ := cW_push hw
                refine ⟨_, rfl, g3089.1, g3089.2, for_range (lo := 0) (n := Int.toNat (v3085)) (fun i σ H' => ∃ (u3098 : Option V) (u3099 : Option V) (told_3100 : (List (List (List Int)))) (vs3101 : List V) (L3102 : List Addr) (G' : Hp), σ = [some (V.ref a_script), some (V.ref p2380), some (V.int (width_2413)), some (V.int (height_2414)), some (V.ref x2430), some (V.ref x2446), some (V.int ((((itD (v2377) (4)) % 13) - 6))), some (V.ref x2467), some (V.ref a2505), some (V.ref p2516), some (V.ref p2522), u3098, u2544, u2545, u2546, u2547, some (V.ref a2741), some (V.str ((PyData.shown ((encL encD) ([((encL (encL (encL PyData.int))) (v2731)), ((encL (encL (encT2 PyData.int PyData.bool))) (blocks_2541))]))))), some (V.ref a2766), u3099, u2802, u2803, some (V.ref a3049)] ∧ Same G3052 G' ∧ Sep [] H H G' H' (p2380 :: (x2430 :: (x2446 :: (x2467 :: (l2481 :: (l2482 :: (p2516 :: (a2766 :: (a3049 :: (L2800 ++ (L3102 ++ []))))))))))) ∧ H' p2380 = some (.lst ((v2377 : (List Int)).map V.int)) ∧ H' x2430 = some (.ins AD.c_Format dx2431 [("width", V.int (v2441.width)), ("height", V.int (v2441.height)), ("depth", V.int (v2441.depth)), ("chroma", V.int (v2441.chroma))]) ∧ H' x2446 = some (.ins AD.c_Settings dx2447 [("fmt", V.ref x2430), ("slots", V.int (v2458.slots)), ("rows", V.int (v2458.rows)), ("deblock", V.bl (v2458.deblock)), ("offset", V.bl (v2458.offset)), ("layers", V.int (v2458.layers))]) ∧ H' x2467 = some (.ins AD.c_PictureHeader dx2468 [("number", V.int (v2480.number)), ("kind", V.str (v2480.kind)), ("level", V.int (v2480.level)), ("store", V.ref l2481), ("refs", V.ref l2482), ("weight", V.int (v2480.weight)), ("layer", V.int (v2480.layer)), ("shown", V.bl (v2480.shown)), ("edge", V.int (v2480.edge))]) ∧ H' l2481 = some (.lst ((v2480.store : (List Int)).map V.int)) ∧ H' l2482 = some (.lst ((v2480.refs : (List Int)).map V.int)) ∧ H' p2516 = some (.lst ((v2513 : (List Int)).map V.int)) ∧ H' a2766 = some (.lst (vs2799)) ∧ H' a3049 = some (.lst (vs3101)) ∧ (∀ b ∈ L3102, b ≠ p2380) ∧ (∀ b ∈ L3102, b ≠ x2430) ∧ (∀ b ∈ L3102, b ≠ x2446) ∧ (∀ b ∈ L3102, b ≠ x2467) ∧ (∀ b ∈ L3102, b ≠ l2481) ∧ (∀ b ∈ L3102, b ≠ l2482) ∧ (∀ b ∈ L3102, b ≠ p2516) ∧ (∀ b ∈ L3102, b ≠ a2766) ∧ (∀ b ∈ L3102, b ≠ a3049) ∧ (∀ b ∈ L3102, b ∉ L2800) ∧ OwAll G' H' L2800 (vs2799) ((due_2798 : (List (List (List Int)))).map (oL (oL oI))) ∧ OwAll G' H' L3102 (vs3101) ((told_3100 : (List (List (List Int)))).map (oL (oL oI))) ∧ cW (forS (List.drop i (rng (0) (Int.toNat (v3085)))) told_3100 (fun s x => F_law_b8  s x)) K3096 EE) ?_ ?_ ?_⟩
                · have h3103 := (e3087 _ _ (e3071 _ _ (e3048 _ _ h3026)))
                  have h3104 := (e3087 _ _ h3084)
                  have h3105 := (e3087 _ _ (e3071 _ _ (e3048 _ _ h3028)))
                  have h3106 := (e3087 _ _ (e3071 _ _ (e3048 _ _ h3029)))
                  have h3107 := (e3087 _ _ (e3071 _ _ (e3048 _ _ h3030)))
                  have h3108 := (e3087 _ _ (e3071 _ _ (e3048 _ _ h3031)))
                  have h3109 := (e3087 _ _ (e3071 _ _ (e3048 _ _ h3032)))
                  have h3110 := (e3087 _ _ h3081)
                  have h3111 := (e3087 _ _ h3079)
                  have w3112 : OwAll G3052 H3086 L2800 (vs2799) ((due_2798 : (List (List (List Int)))).map (oL (oL oI))) := (OwAll.mono (Same.refl _) (keeps_same e3087) w3082)
                  have w3113 : OwAll G3052 H3086 L3051 (vs3050) ((v3046 : (List (List (List Int)))).map (oL (oL oI))) := (OwAll.mono (Same.refl _) (keeps_same e3087) w3080)
                  exact ⟨_, _, (v3046), (vs3050), L3051, _, rfl, (Same.refl _), (S3088.sub (all_cons (.tail _ (.tail _ (List.mem_append_right _ (.head _)))) (all_cons (.tail _ (.tail _ (List.mem_append_right _ (.tail _ (.head _))))) (all_cons (.tail _ (.tail _ (List.mem_append_right _ (.tail _ (.tail _ (.head _)))))) (all_cons (.tail _ (.tail _ (List.mem_append_right _ (.tail _ (.tail _ (.tail _ (.head _))))))) (all_cons (.tail _ (.tail _ (List.mem_append_right _ (.tail _ (.tail _ (.tail _ (.tail _ (.head _)))))))) (all_cons (.tail _ (.tail _ (List.mem_append_right _ (.tail _ (.tail _ (.tail _ (.tail _ (.tail _ (.head _))))))))) (all_cons (.tail _ (.tail _ (List.mem_append_right _ (.tail _ (.tail _ (.tail _ (.tail _ (.tail _ (.tail _ (.head _)))))))))) (all_cons (.tail _ (.tail _ (List.mem_append_right _ (.tail _ (.tail _ (.tail _ (.tail _ (.tail _ (.tail _ (.tail _ (.head _))))))))))) (all_cons (.tail _ (.head _)) (all_app ((fun b hb => (.tail _ (.tail _ (List.mem_append_right _ (.tail _ (.tail _ (.tail _ (.tail _ (.tail _ (.tail _ (.tail _ (.tail _ (List.mem_append_left _ hb))))))))))))) : ∀ b ∈ L2800, b ∈ (p3067 :: (a3049 :: (L3051 ++ (p2380 :: (x2430 :: (x2446 :: (x2467 :: (l2481 :: (l2482 :: (p2516 :: (a2766 :: (L2800 ++ []))))))))))))) (all_app ((fun b hb => (.tail _ (.tail _ (List.mem_append_left _ hb)))) : ∀ b ∈ L3051, b ∈ (p3067 :: (a3049 :: (L3051 ++ (p2380 :: (x2430 :: (x2446 :: (x2467 :: (l2481 :: (l2482 :: (p2516 :: (a2766 :: (L2800 ++ []))))))))))))) all_nil)))))))))))), h3103, h3104, h3105, h3106, h3107, h3108, h3109, h3110, h3111, (new_ne2 nb3054 (S3025.ow _ (.head _)).2.1), (new_ne2 nb3054 (S3025.ow _ (.tail _ (.head _))).2.1), (new_ne2 nb3054 (S3025.ow _ (.tail _ (.tail _ (.head _)))).2.1), (new_ne2 nb3054 (S3025.ow _ (.tail _ (.tail _ (.tail _ (.head _))))).2.1), (new_ne2 nb3054 (S3025.ow _ (.tail _ (.tail _ (.tail _ (.tail _ (.head _)))))).2.1), (new_ne2 nb3054 (S3025.ow _ (.tail _ (.tail _ (.tail _ (.tail _ (.tail _ (.head _))))))).2.1), (new_ne2 nb3054 (S3025.ow _ (.tail _ (.tail _ (.tail _ (.tail _ (.tail _ (.tail _ (.head _)))))))).2.1), (new_ne2 nb3054 (S3025.ow _ (.tail _ (.tail _ (.tail _ (.tail _ (.tail _ (.tail _ (.tail _ (.head _))))))))).2.1), nd3055, (new_nl nb3054 (fun b_ hb_ => (S3025.ow b_ (((fun b hb => (.tail _ (.tail _ (.tail _ (.tail _ (.tail _ (.tail _ (.tail _ (.tail _ (List.mem_append_left _ hb)))))))))) : ∀ b ∈ L2800, b ∈ (p2380 :: (x2430 :: (x2446 :: (x2467 :: (l2481 :: (l2482 :: (p2516 :: (a2766 :: (L2800 ++ [])))))))))) b_ hb_)).2.1)), w3112, w3113, hw⟩
                · intro i σ H3114 hi hw
                  obtain ⟨u3098, u3099, told_3100, vs3101, L3102, G3137, rfl, eG3138, S3115, h3116, h3117, h3118, h3119, h3120, h3121, h3122, h3123, h3124, ne3125, ne3126, ne3127, ne3128, ne3129, ne3130, ne3131, ne3132, ne3133, ne3134, w3135, w3136, hw⟩ := hw
                  have hw := cW_forS (rng_get hi) hw
                  generalize (0 + (i : Int)) = x3139 at hw ⊢
                  have hw : cW (F_law_b8  (told_3100) (x3139)) _ EE := hw
                  unfold F_law_b8 at hw
                  obtain ⟨K3141, hK3142, hw⟩ := cW_name hw
                  obtain ⟨g3144, hw⟩ := cW_grd hw
                  obtain ⟨v3145, L3146, a3147, w3148, hs3149, up3150, gr3151⟩ := OwAll.partM (k := x3139) w3136 g3144
                  obtain ⟨b3152, vs3153, L3154, rfl, rfl, h3155, w3156, nb3157⟩ := Ow.toList w3148
                  obtain ⟨g3158, hw⟩ := cW_grd hw
                  obtain ⟨K3160, hK3161, hw⟩ := cW_push hw
                  refine ⟨_, rfl, _, rfl, _, _, _, _, rfl, rfl, (SqL.of h3124), a3147, _, _, _, rfl, (SqL.of h3155), (by rw [(OwAll.rpA w3156 (encO_L encO_I) S3115.sG).len, List.length_map]), _, rfl, g3158.1, g3158.2, for_range (lo := 0) (n := Int.toNat (((((itD (told_3100) (x3139))) : (List (List Int))).length : Int))) (fun i σ H' => ∃ (u3162 : Option V) (told_3163 : (List (List (List Int)))) (vs3164 : List V) (L3165 : List Addr) (G' : Hp), σ = [some (V.ref a_script), some (V.ref p2380), some (V.int (width_2413)), some (V.int (height_2414)), some (V.ref x2430), some (V.ref x2446), some (V.int ((((itD (v2377) (4)) % 13) - 6))), some (V.ref x2467), some (V.ref a2505), some (V.ref p2516), some (V.ref p2522), u3162, u2544, u2545, u2546, u2547, some (V.ref a2741), some (V.str ((PyData.shown ((encL encD) ([((encL (encL (encL PyData.int))) (v2731)), ((encL (encL (encT2 PyData.int PyData.bool))) (blocks_2541))]))))), some (V.ref a2766), some (V.int (x3139)), u2802, u2803, some (V.ref a3049)] ∧ Same G3137 G' ∧ Sep [] H H G' H' (p2380 :: (x2430 :: (x2446 :: (x2467 :: (l2481 :: (l2482 :: (p2516 :: (a2766 :: (a3049 :: (L2800 ++ (L3165 ++ []))))))))))) ∧ H' p2380 = some (.lst ((v2377 : (List Int)).map V.int)) ∧ H' x2430 = some (.ins AD.c_Format dx2431 [("width", V.int (v2441.width)), ("height", V.int (v2441.height)), ("depth", V.int (v2441.depth)), ("chroma", V.int (v2441.chroma))]) ∧ H' x2446 = some (.ins AD.c_Settings dx2447 [("fmt", V.ref x2430), ("slots", V.int (v2458.slots)), ("rows", V.int (v2458.rows)), ("deblock", V.bl (v2458.deblock)), ("offset", V.bl (v2458.offset)), ("layers", V.int (v2458.layers))]) ∧ H' x2467 = some (.ins AD.c_PictureHeader dx2468 [("number", V.int (v2480.number)), ("kind", V.str (v2480.kind)), ("level", V.int (v2480.level)), ("store", V.ref l2481), ("refs", V.ref l2482), ("weight", V.int (v2480.weight)), ("layer", V.int (v2480.layer)), ("shown", V.bl (v2480.shown)), ("edge", V.int (v2480.edge))]) ∧ H' l2481 = some (.lst ((v2480.store : (List Int)).map V.int)) ∧ H' l2482 = some (.lst ((v2480.refs : (List Int)).map V.int)) ∧ H' p2516 = some (.lst ((v2513 : (List Int)).map V.int)) ∧ H' a2766 = some (.lst (vs2799)) ∧ H' a3049 = some (.lst (vs3164)) ∧ (∀ b ∈ L3165, b ≠ p2380) ∧ (∀ b ∈ L3165, b ≠ x2430) ∧ (∀ b ∈ L3165, b ≠ x2446) ∧ (∀ b ∈ L3165, b ≠ x2467) ∧ (∀ b ∈ L3165, b ≠ l2481) ∧ (∀ b ∈ L3165, b ≠ l2482) ∧ (∀ b ∈ L3165, b ≠ p2516) ∧ (∀ b ∈ L3165, b ≠ a2766) ∧ (∀ b ∈ L3165, b ≠ a3049) ∧ (∀ b ∈ L3165, b ∉ L2800) ∧ OwAll G' H' L2800 (vs2799) ((due_2798 : (List (List (List Int)))).map (oL (oL oI))) ∧ OwAll G' H' L3165 (vs3164) ((told_3163 : (List (List (List Int)))).map (oL (oL oI))) ∧ cW (forS (List.drop i (rng (0) (Int.toNat (((((itD (told_3100) (x3139))) : (List (List Int))).length : Int))))) told_3163 (fun s x => F_law_b9 (x3139) s x)) K3160 EE) ?_ ?_ ?_⟩
                  · exact ⟨_, (told_3100), (vs3101), L3102, _, rfl, (Same.refl _), (S3115.sub (all_cons (.head _) (all_cons (.tail _ (.head _)) (all_cons (.tail _ (.tail _ (.head _))) (all_cons (.tail _ (.tail _ (.tail _ (.head _)))) (all_cons (.tail _ (.tail _ (.tail _ (.tail _ (.head _))))) (all_cons (.tail _ (.tail _ (.tail _ (.tail _ (.tail _ (.head _)))))) (all_cons (.tail _ (.tail _ (.tail _ (.tail _ (.tail _ (.tail _ (.head _))))))) (all_cons (.tail _ (.tail _ (.tail _ (.tail _ (.tail _ (.tail _ (.tail _ (.head _)))))))) (all_cons (.tail _ (.tail _ (.tail _ (.tail _ (.tail _ (.tail _ (.tail _ (.tail _ (.head _))))))))) (all_app ((fun b hb => (.tail _ (.tail _ (.tail _ (.tail _ (.tail _ (.tail _ (.tail _ (.tail _ (.tail _ (List.mem_append_left _ hb))))))))))) : ∀ b ∈ L2800, b ∈ (p2380 :: (x2430 :: (x2446 :: (x2467 :: (l2481 :: (l2482 :: (p2516 :: (a2766 :: (a3049 :: (L2800 ++ (L3102 ++ [])))))))))))) (all_app ((fun b hb => (.tail _ (.tail _ (.tail _ (.tail _ (.tail _ (.tail _ (.tail _ (.tail _ (.tail _ (List.mem_append_right _ (List.mem_append_left _ hb)))))))))))) : ∀ b ∈ L3102, b ∈ (p2380 :: (x2430 :: (x2446 :: (x2467 :: (l2481 :: (l2482 :: (p2516 :: (a2766 :: (a3049 :: (L2800 ++ (L3102 ++ [])))))))))))) all_nil)))))))))))), h3116, h3117, h3118, h3119, h3120, h3121, h3122, h3123, h3124, ne3125, ne3126, ne3127, ne3128, ne3129, ne3130, ne3131, ne3132, ne3133, ne3134, w3135, w3136, hw⟩
                  · intro i σ H3166 hi hw
                    obtain ⟨u3162, told_3163, vs3164, L3165, G3189, rfl, eG3190, S3167, h3168, h3169, h3170, h3171, h3172, h3173, h3174, h3175, h3176, ne3177, ne3178, ne3179, ne3180, ne3181, ne3182, ne3183, ne3184, ne3185, ne3186, w3187, w3188, hw⟩ := hw
                    have hw := cW_forS (rng_get hi) hw
                    generalize (0 + (i : Int)) = x3191 at hw ⊢
                    have hw : cW (F_law_b9 (x3139) (told_3163) (x3191)) _ EE := hw
                    unfold F_law_b9 at hw
                    obtain ⟨K3193, hK3194, hw⟩ := cW_name hw
                    obtain ⟨g3196, hw⟩ := cW_grd hw
                    obtain ⟨v3197, L3198, a3199, w3200, hs3201, up3202, gr3203⟩ := OwAll.partM (k := x3139) w3188 g3196
                    obtain ⟨b3204, vs3205, L3206, rfl, rfl, h3207, w3208, nb3209⟩ := Ow.toList w3200
                    obtain ⟨g3210, hw⟩ := cW_grd hw
                    obtain ⟨v3211, L3212, a3213, w3214, hs3215, up3216, gr3217⟩ := OwAll.partM (k := x3191) w3208 g3210
                    obtain ⟨b3218, rfl, rfl, h3219⟩ := Ow.toInts w3214
                    obtain ⟨g3220, hw⟩ := cW_grd hw
                    refine ⟨_, rfl, _, rfl, _, rfl, _, _, _, _, rfl, rfl, (SqL.of h3176), a3199, _, rfl, _, _, _, _, rfl, rfl, (SqL.of h3207), a3213, _, _, _, _, rfl, rfl, h3219, (ixN_map g3220), ?_⟩
                    generalize g3221 : upd H3166 b3218 _ = H3222
                    obtain ⟨x3223, h3224⟩ := gen_mut g3221
                    have h3225 : H3222 b3218 = some (.lst ((setL ((itD ((itD (told_3163) (x3139))) (x3191))) (0) ((-1)) : (List Int)).map V.int)) := set_map h3224
                    have S3226 := S3167.mut1 x3223 (((fun b hb => (((fun b hb => (.tail _ (.tail _ (.tail _ (.tail _ (.tail _ (.tail _ (.tail _ (.tail _ (.tail _ (List.mem_append_right _ (List.mem_append_left _ hb)))))))))))) : ∀ b ∈ L3165, b ∈ (p2380 :: (x2430 :: (x2446 :: (x2467 :: (l2481 :: (l2482 :: (p2516 :: (a2766 :: (a3049 :: (L2800 ++ (L3165 ++ [])))))))))))) : ∀ b ∈ L3165, b ∈ (p2380 :: (x2430 :: (x2446 :: (x2467 :: (l2481 :: (l2482 :: (p2516 :: (a2766 :: (a3049 :: (L2800 ++ (L3165 ++ [])))))))))))) b ((fun c hc => hs3201 c (List.mem_cons_of_mem _ hc)) b hb)) : ∀ b ∈ L3206, b ∈ (p2380 :: (x2430 :: (x2446 :: (x2467 :: (l2481 :: (l2482 :: (p2516 :: (a2766 :: (a3049 :: (L2800 ++ (L3165 ++ [])))))))))))) _ (hs3215 _ List.mem_cons_self)) h3225
                    have w3227 : OwAll G3189 H3222 L3206 (vs3205) ((setL ((itD (told_3163) (x3139))) (x3191) (setL ((itD ((itD (told_3163) (x3139))) (x3191))) (0) ((-1))) : (List (List Int))).map (oL oI)) := upd_tree up3216 x3223 List.mem_cons_self (Ow.ints h3225)
                    have hw := cW_bnd hw
                    have h3229 := (x3223 _ _ h3207 (nb3209 _ (hs3215 _ List.mem_cons_self)).symm)
                    have w3230 : OwAll G3189 H3222 L3165 (vs3164) ((setL (told_3163) (x3139) (setL ((itD (told_3163) (x3139))) (x3191) (setL ((itD ((itD (told_3163) (x3139))) (x3191))) (0) ((-1)))) : (List (List (List Int)))).map (oL (oL oI))) := upd_tree up3202 x3223 (List.mem_cons_of_mem _ (hs3215 _ List.mem_cons_self)) (Ow.list h3229 w3227 (nb3209 : ∀ b ∈ L3206, b ≠ b3204))
                    have hw := cW_bnd hw
                    obtain ⟨g3232, hw⟩ := cW_grd hw
                    obtain ⟨v3233, L3234, a3235, w3236, hs3237, up3238, gr3239⟩ := OwAll.partM (k := x3139) w3230 g3232
                    have h3240 := (x3223 _ _ h3176 ((((fun b hb => (ne3185 : ∀ b ∈ L3165, b ≠ a3049) b ((fun c hc => hs3201 c (List.mem_cons_of_mem _ hc)) b hb)) : ∀ b ∈ L3206, b ≠ a3049) _ (hs3215 _ List.mem_cons_self))).symm)
                    obtain ⟨b3241, vs3242, L3243, rfl, rfl, h3244, w3245, nb3246⟩ := Ow.toList w3236
                    obtain ⟨g3247, hw⟩ := cW_grd hw
                    obtain ⟨v3248, L3249, a3250, w3251, hs3252, up3253, gr3254⟩ := OwAll.partM (k := x3191) w3245 g3247
                    obtain ⟨b3255, rfl, rfl, h3256⟩ := Ow.toInts w3251
                    obtain ⟨g3257, hw⟩ := cW_grd hw
                    obtain ⟨v3258, L3259, a3260, w3261, hs3262, up3263, gr3264⟩ := OwAll.partM (k := x3139) w3230 g3257
                    obtain ⟨b3265, vs3266, L3267, rfl, rfl, h3268, w3269, nb3270⟩ := Ow.toList w3261
                    obtain ⟨g3271, hw⟩ := cW_grd hw
                    obtain ⟨v3272, L3273, a3274, w3275, hs3276, up3277, gr3278⟩ := OwAll.partM (k := x3191) w3269 g3271
                    obtain ⟨b3279, rfl, rfl, h3280⟩ := Ow.toInts w3275
                    obtain ⟨g3281, hw⟩ := cW_grd hw
                    refine ⟨_, rfl, _, rfl, _, rfl, _, _, _, _, rfl, rfl, (SqL.of h3240), a3235, _, rfl, _, _, _, _, rfl, rfl, (SqL.of h3244), a3250, _, rfl, _, rfl, _, _, _, _, rfl, rfl, (SqL.of h3240), a3260, _, rfl, _, _, _, _, rfl, rfl, (SqL.of h3268), a3274, _, _, rfl, (SqL.of h3280), _, _, rfl, rfl, _, _, _, _, rfl, rfl, h3256, (ixN_map g3281), ?_⟩
                    generalize g3282 : upd H3222 b3255 _ = H3283
                    obtain ⟨x3284, h3285⟩ := gen_mut g3282
                    have h3286 : H3283 b3255 = some (.lst ((setL ((itD ((itD (setL (told_3163) (x3139) (setL ((itD (told_3163) (x3139))) (x3191) (setL ((itD ((itD (told_3163) (x3139))) (x3191))) (0) ((-1))))) (x3139))) (x3191))) ((((((itD ((itD (setL (told_3163) (x3139) (setL ((itD (told_3163) (x3139))) (x3191) (setL ((itD ((itD (told_3163) (x3139))) (x3191))) (0) ((-1))))) (x3139))) (x3191))) : (List Int)).length : Int) - 1)) ((-1)) : (List Int)).map V.int)) := set_map h3285
                    have S3287 := S3226.mut1 x3284 (((fun b hb => (((fun b hb => (.tail _ (.tail _ (.tail _ (.tail _ (.tail _ (.tail _ (.tail _ (.tail _ (.tail _ (List.mem_append_right _ (List.mem_append_left _ hb)))))))))))) : ∀ b ∈ L3165, b ∈ (p2380 :: (x2430 :: (x2446 :: (x2467 :: (l2481 :: (l2482 :: (p2516 :: (a2766 :: (a3049 :: (L2800 ++ (L3165 ++ [])))))))))))) : ∀ b ∈ L3165, b ∈ (p2380 :: (x2430 :: (x2446 :: (x2467 :: (l2481 :: (l2482 :: (p2516 :: (a2766 :: (a3049 :: (L2800 ++ (L3165 ++ [])))))))))))) b ((fun c hc => hs3237 c (List.mem_cons_of_mem _ hc)) b hb)) : ∀ b ∈ L3243, b ∈ (p2380 :: (x2430 :: (x2446 :: (x2467 :: (l2481 :: (l2482 :: (p2516 :: (a2766 :: (a3049 :: (L2800 ++ (L3165 ++ [])))))))))))) _ (hs3252 _ List.mem_cons_self)) h3286
                    have w3288 : OwAll G3189 H3283 L3243 (vs3242) ((setL ((itD (setL (told_3163) (x3139) (setL ((itD (told_3163) (x3139))) (x3191) (setL ((itD ((itD (told_3163) (x3139))) (x3191))) (0) ((-1))))) (x3139))) (x3191) (setL ((itD ((itD (setL (told_3163) (x3139) (setL ((itD (told_3163) (x3139))) (x3191) (setL ((itD ((itD (told_3163) (x3139))) (x3191))) (0) ((-1))))) (x3139))) (x3191))) ((((((itD ((itD (setL (told_3163) (x3139) (setL ((itD (told_3163) (x3139))) (x3191) (setL ((itD ((itD (told_3163) (x3139))) (x3191))) (0) ((-1))))) (x3139))) (x3191))) : (List Int)).length : Int) - 1)) ((-1))) : (List (List Int))).map (oL oI)) := upd_tree up3253 x3284 List.mem_cons_self (Ow.ints h3286)
                    have hw := cW_bnd hw
                    have h3290 := (x3284 _ _ h3244 (nb3246 _ (hs3252 _ List.mem_cons_self)).symm)
                    have w3291 : OwAll G3189 H3283 L3165 (vs3164) ((setL (setL (told_3163) (x3139) (setL ((itD (told_3163) (x3139))) (x3191) (setL ((itD ((itD (told_3163) (x3139))) (x3191))) (0) ((-1))))) (x3139) (setL ((itD (setL (told_3163) (x3139) (setL ((itD (told_3163) (x3139))) (x3191) (setL ((itD ((itD (told_3163) (x3139))) (x3191))) (0) ((-1))))) (x3139))) (x3191) (setL ((itD ((itD (setL (told_3163) (x3139) (setL ((itD (told_3163) (x3139))) (x3191) (setL ((itD ((itD (told_3163) (x3139))) (x3191))) (0) ((-1))))) (x3139))) (x3191))) ((((((itD ((itD (setL (told_3163) (x3139) (setL ((itD (told_3163) (x3139))) (x3191) (setL ((itD ((itD (told_3163) (x3139))) (x3191))) (0) ((-1))))) (x3139))) (x3191))) : (List Int)).length : Int) - 1)) ((-1)))) : (List (List (List Int)))).map (oL (oL oI))) := upd_tree up3238 x3284 (List.mem_cons_of_mem _ (hs3252 _ List.mem_cons_self)) (Ow.list h3290 w3288 (nb3246 : ∀ b ∈ L3243, b ≠ b3241))
                    have hw := cW_bnd hw
                    have hw := cW_ok hw
                    have hw := hK3194 _ hw
                    have h3293 := (x3284 _ _ (x3223 _ _ h3168 ((((fun b hb => (ne3177 : ∀ b ∈ L3165, b ≠ p2380) b ((fun c hc => hs3201 c (List.mem_cons_of_mem _ hc)) b hb)) : ∀ b ∈ L3206, b ≠ p2380) _ (hs3215 _ List.mem_cons_self))).symm) ((((fun b hb => (ne3177 : ∀ b ∈ L3165, b ≠ p2380) b ((fun c hc => hs3237 c (List.mem_cons_of_mem _ hc)) b hb)) : ∀ b ∈ L3243, b ≠ p2380) _ (hs3252 _ List.mem_cons_self))).symm)
                    have h3294 := (x3284 _ _ (x3223 _ _ h3169 ((((fun b hb => (ne3178 : ∀ b ∈ L3165, b ≠ x2430) b ((fun c hc => hs3201 c (List.mem_cons_of_mem _ hc)) b hb)) : ∀ b ∈ L3206, b ≠ x2430) _ (hs3215 _ List.mem_cons_self))).symm) ((((fun b hb => (ne3178 : ∀ b ∈ L3165, b ≠ x2430) b ((fun c hc => hs3237 c (List.mem_cons_of_mem _ hc)) b hb)) : ∀ b ∈ L3243, b ≠ x2430) _ (hs3252 _ List.mem_cons_self))).symm)
                    have h3295 := (x3284 _ _ (x3223 _ _ h3170 ((((fun b hb => (ne3179 : ∀ b ∈ L3165, b ≠ x2446) b ((fun c hc => hs3201 c (List.mem_cons_of_mem _ hc)) b hb)) : ∀ b ∈ L3206, b ≠ x2446) _ (hs3215 _ List.mem_cons_self))).symm) ((((fun b hb => (ne3179 : ∀ b ∈ L3165, b ≠ x2446) b ((fun c hc => hs3237 c (List.mem_cons_of_mem _ hc)) b hb)) : ∀ b ∈ L3243, b ≠ x2446) _ (hs3252 _ List.mem_cons_self))).symm)
                    have h3296 := (x3284 _ _ (x3223 _ _ h3171 ((((fun b hb => (ne3180 : ∀ b ∈ L3165, b ≠ x2467) b ((fun c hc => hs3201 c (List.mem_cons_of_mem _ hc)) b hb)) : ∀ b ∈ L3206, b ≠ x2467) _ (hs3215 _ List.mem_cons_self))).symm) ((((fun b hb => (ne3180 : ∀ b ∈ L3165, b ≠ x2467) b ((fun c hc => hs3237 c (List.mem_cons_of_mem _ hc)) b hb)) : ∀ b ∈ L3243, b ≠ x2467) _ (hs3252 _ List.mem_cons_self))).symm)
                    have h3297 := (x3284 _ _ (x3223 _ _ h3172 ((((fun b hb => (ne3181 : ∀ b ∈ L3165, b ≠ l2481) b ((fun c hc => hs3201 c (List.mem_cons_of_mem _ hc)) b hb)) : ∀ b ∈ L3206, b ≠ l2481) _ (hs3215 _ List.mem_cons_self))).symm) ((((fun b hb => (ne3181 : ∀ b ∈ L3165, b ≠ l2481) b ((fun c hc => hs3237 c (List.mem_cons_of_mem _ hc)) b hb)) : ∀ b ∈ L3243, b ≠ l2481) _ (hs3252 _ List.mem_cons_self))).symm)
                    have h3298 := (x3284 _ _ (x3223 _ _ h3173 ((((fun b hb => (ne3182 : ∀ b ∈ L3165, b ≠ l2482) b ((fun c hc => hs3201 c (List.mem_cons_of_mem _ hc)) b hb)) : ∀ b ∈ L3206, b ≠ l2482) _ (hs3215 _ List.mem_cons_self))).symm) ((((fun b hb => (ne3182 : ∀ b ∈ L3165, b ≠ l2482) b ((fun c hc => hs3237 c (List.mem_cons_of_mem _ hc)) b hb)) : ∀ b ∈ L3243, b ≠ l2482) _ (hs3252 _ List.mem_cons_self))).symm)
                    have h3299 := (x3284 _ _ (x3223 _ _ h3174 ((((fun b hb => (ne3183 : ∀ b ∈ L3165, b ≠ p2516) b ((fun c hc => hs3201 c (List.mem_cons_of_mem _ hc)) b hb)) : ∀ b ∈ L3206, b ≠ p2516) _ (hs3215 _ List.mem_cons_self))).symm) ((((fun b hb => (ne3183 : ∀ b ∈ L3165, b ≠ p2516) b ((fun c hc => hs3237 c (List.mem_cons_of_mem _ hc)) b hb)) : ∀ b ∈ L3243, b ≠ p2516) _ (hs3252 _ List.mem_cons_self))).symm)
                    have h3300 := (x3284 _ _ (x3223 _ _ h3175 ((((fun b hb => (ne3184 : ∀ b ∈ L3165, b ≠ a2766) b ((fun c hc => hs3201 c (List.mem_cons_of_mem _ hc)) b hb)) : ∀ b ∈ L3206, b ≠ a2766) _ (hs3215 _ List.mem_cons_self))).symm) ((((fun b hb => (ne3184 : ∀ b ∈ L3165, b ≠ a2766) b ((fun c hc => hs3237 c (List.mem_cons_of_mem _ hc)) b hb)) : ∀ b ∈ L3243, b ≠ a2766) _ (hs3252 _ List.mem_cons_self))).symm)
                    have h3301 := (x3284 _ _ h3240 ((((fun b hb => (ne3185 : ∀ b ∈ L3165, b ≠ a3049) b ((fun c hc => hs3237 c (List.mem_cons_of_mem _ hc)) b hb)) : ∀ b ∈ L3243, b ≠ a3049) _ (hs3252 _ List.mem_cons_self))).symm)
                    have w3302 : OwAll G3189 H3283 L2800 (vs2799) ((due_2798 : (List (List (List Int)))).map (oL (oL oI))) := (OwAll.mono (Same.refl _) (keeps_mut x3284 ((fun b hb z => (fun b hb => ((nl_symm (fun c hc => (ne3186 : ∀ c ∈ L3165, c ∉ L2800) c ((fun c hc => hs3237 c (List.mem_cons_of_mem _ hc)) c hc))) b hb)) b hb (z ▸ (hs3252 _ List.mem_cons_self))) : ∀ b ∈ L2800, b ≠ b3255)) (OwAll.mono (Same.refl _) (keeps_mut x3223 ((fun b hb z => (fun b hb => ((nl_symm (fun c hc => (ne3186 : ∀ c ∈ L3165, c ∉ L2800) c ((fun c hc => hs3201 c (List.mem_cons_of_mem _ hc)) c hc))) b hb)) b hb (z ▸ (hs3215 _ List.mem_cons_self))) : ∀ b ∈ L2800, b ≠ b3218)) w3187))
                    exact ⟨_, (setL (setL (told_3163) (x3139) (setL ((itD (told_3163) (x3139))) (x3191) (setL ((itD ((itD (told_3163) (x3139))) (x3191))) (0) ((-1))))) (x3139) (setL ((itD (setL (told_3163) (x3139) (setL ((itD (told_3163) (x3139))) (x3191) (setL ((itD ((itD (told_3163) (x3139))) (x3191))) (0) ((-1))))) (x3139))) (x3191) (setL ((itD ((itD (setL (told_3163) (x3139) (setL ((itD (told_3163) (x3139))) (x3191) (setL ((itD ((itD (told_3163) (x3139))) (x3191))) (0) ((-1))))) (x3139))) (x3191))) ((((((itD ((itD (setL (told_3163) (x3139) (setL ((itD (told_3163) (x3139))) (x3191) (setL ((itD ((itD (told_3163) (x3139))) (x3191))) (0) ((-1))))) (x3139))) (x3191))) : (List Int)).length : Int) - 1)) ((-1))))), (vs3164), L3165, _, rfl, eG3190, (S3287.sub (all_cons (.head _) (all_cons (.tail _ (.head _)) (all_cons (.tail _ (.tail _ (.head _))) (all_cons (.tail _ (.tail _ (.tail _ (.head _)))) (all_cons (.tail _ (.tail _ (.tail _ (.tail _ (.head _))))) (all_cons (.tail _ (.tail _ (.tail _ (.tail _ (.tail _ (.head _)))))) (all_cons (.tail _ (.tail _ (.tail _ (.tail _ (.tail _ (.tail _ (.head _))))))) (all_cons (.tail _ (.tail _ (.tail _ (.tail _ (.tail _ (.tail _ (.tail _ (.head _)))))))) (all_cons (.tail _ (.tail _ (.tail _ (.tail _ (.tail _ (.tail _ (.tail _ (.tail _ (.head _))))))))) (all_app ((fun b hb => (.tail _ (.tail _ (.tail _ (.tail _ (.tail _ (.tail _ (.tail _ (.tail _ (.tail _ (List.mem_append_left _ hb))))))))))) : ∀ b ∈ L2800, b ∈ (p2380 :: (x2430 :: (x2446 :: (x2467 :: (l2481 :: (l2482 :: (p2516 :: (a2766 :: (a3049 :: (L2800 ++ (L3165 ++ [])))))))))))) (all_app ((fun b hb => (.tail _ (.tail _ (.tail _ (.tail _ (.tail _ (.tail _ (.tail _ (.tail _ (.tail _ (List.mem_append_right _ (List.mem_append_left _ hb)))))))))))) : ∀ b ∈ L3165, b ∈ (p2380 :: (x2430 :: (x2446 :: (x2467 :: (l2481 :: (l2482 :: (p2516 :: (a2766 :: (a3049 :: (L2800 ++ (L3165 ++ [])))))))))))) all_nil)))))))))))), h3293, h3294, h3295, h3296, h3297, h3298, h3299, h3300, h3301, ne3177, ne3178, ne3179, ne3180, ne3181, ne3182, ne3183, ne3184, ne3185, ne3186, w3302, w3291, hw⟩
                  · intro σ H3303 hw
                    obtain ⟨u3162, told_3163, vs3164, L3165, G3326, rfl, eG3327, S3304, h3305, h3306, h3307, h3308, h3309, h3310, h3311, h3312, h3313, ne3314, ne3315, ne3316, ne3317, ne3318, ne3319, ne3320, ne3321, ne3322, ne3323, w3324, w3325, hw⟩ := hw
                    have hw := hK3161 _ (cW_forS0 (rng_len _ _).symm hw)
                    have hw : cW (F_law_r9  (told_3163)) _ EE := hw
                    unfold F_law_r9 at hw
                    have hw := cW_ok hw
                    have hw := hK3142 _ hw
                    exact ⟨_, _, (told_3163), (vs3164), L3165, _, rfl, (Same.trans eG3138 eG3327), (S3304.sub (all_cons (.head _) (all_cons (.tail _ (.head _)) (all_cons (.tail _ (.tail _ (.head _))) (all_cons (.tail _ (.tail _ (.tail _ (.head _)))) (all_cons (.tail _ (.tail _ (.tail _ (.tail _ (.head _))))) (all_cons (.tail _ (.tail _ (.tail _ (.tail _ (.tail _ (.head _)))))) (all_cons (.tail _ (.tail _ (.tail _ (.tail _ (.tail _ (.tail _ (.head _))))))) (all_cons (.tail _ (.tail _ (.tail _ (.tail _ (.tail _ (.tail _ (.tail _ (.head _)))))))) (all_cons (.tail _ (.tail _ (.tail _ (.tail _ (.tail _ (.tail _ (.tail _ (.tail _ (.head _))))))))) (all_app ((fun b hb => (.tail _ (.tail _ (.tail _ (.tail _ (.tail _ (.tail _ (.tail _ (.tail _ (.tail _ (List.mem_append_left _ hb))))))))))) : ∀ b ∈ L2800, b ∈ (p2380 :: (x2430 :: (x2446 :: (x2467 :: (l2481 :: (l2482 :: (p2516 :: (a2766 :: (a3049 :: (L2800 ++ (L3165 ++ [])))))))))))) (all_app ((fun b hb => (.tail _ (.tail _ (.tail _ (.tail _ (.tail _ (.tail _ (.tail _ (.tail _ (.tail _ (List.mem_append_right _ (List.mem_append_left _ hb)))))))))))) : ∀ b ∈ L3165, b ∈ (p2380 :: (x2430 :: (x2446 :: (x2467 :: (l2481 :: (l2482 :: (p2516 :: (a2766 :: (a3049 :: (L2800 ++ (L3165 ++ [])))))))))))) all_nil)))))))))))), h3305, h3306, h3307, h3308, h3309, h3310, h3311, h3312, h3313, ne3314, ne3315, ne3316, ne3317, ne3318, ne3319, ne3320, ne3321, ne3322, ne3323, w3324, w3325, hw⟩
                · intro σ H3329 hw
                  obtain ⟨u3098, u3099, told_3100, vs3101, L3102, G3352, rfl, eG3353, S3330, h3331, h3332, h3333, h3334, h3335, h3336, h3337, h3338, h3339, ne3340, ne3341, ne3342, ne3343, ne3344, ne3345, ne3346, ne3347, ne3348, ne3349, w3350, w3351, hw⟩ := hw
                  have hw := hK3097 _ (cW_forS0 (rng_len _ _).symm hw)
                  have hw : cW (F_law_r8 (v2441) ((⟨v2480.number, v2480.kind, v2480.level, v2480.store, v2480.refs, v2480.weight, v2480.layer, v2480.shown, v2480.edge⟩ : St_PictureHeader)) (blocks_2541) (v2731) ((PyData.shown ((encL encD) ([((encL (encL (encL PyData.int))) (v2731)), ((encL (encL (encT2 PyData.int PyData.bool))) (blocks_2541))])))) (due_2798) (told_3100)) _ EE := hw
                  unfold F_law_r8 at hw
                  refine ⟨_, rfl, _, rfl, ?_⟩
                  have r3355 : Rp G3352 (V.ref a2741) (encD ((encL (encL (encL PyData.int))) (v2731))) := (rp_mk_list (eG3353 _ _ (eG3056 _ _ (eG3044 _ _ (eG2773 _ _ (eG2748 _ _ h2743))))) (RpAll.mono eG3353 (RpAll.mono eG3056 (RpAll.mono eG3044 (RpAll.mono eG2773 (RpAll.mono eG2748 d2744))))))
                  have r3356 : Rp G3352 (V.ref p2522) (encD ((encL (encL (encT2 PyData.int PyData.bool))) (blocks_2541))) := (rp_mk_list (eG3353 _ _ (eG3056 _ _ (eG3044 _ _ (eG2773 _ _ hg2749)))) (RpAll.mono eG3353 (RpAll.mono eG3056 (RpAll.mono eG3044 (RpAll.mono eG2773 (RpAll.mono eG2748 (RpAll.mono eG2736 d2721)))))))
                  refine ⟨(by show 2 ≤ sizeLine; decide), fun p3357 n3358 => ?_⟩
                  generalize g3359 : upd H3329 p3357 _ = H3360
                  obtain ⟨e3361, h3362⟩ := gen_new n3358 g3359
                  have h3363 : H3360 p3357 = some (.lst ([(V.ref a2741), (V.ref p2522)])) := h3362
                  have fr3364 := S3330.free n3358
                  have S3365 := S3330.new n3358 e3361 h3363 fr3364
                  have d3366 : RpAll G3352 ([(V.ref a2741), (V.ref p2522)]) (([((encL (encL (encL PyData.int))) (v2731)), ((encL (encL (encT2 PyData.int PyData.bool))) (blocks_2541))] : (List PyData)).map encD) := (RpAll.cons r3355 (RpAll.cons r3356 RpAll.nil))
                  obtain ⟨g3367, hw⟩ := cW_grd hw
                  refine ⟨_, ((encL encD) ([((encL (encL (encL PyData.int))) (v2731)), ((encL (encL (encT2 PyData.int PyData.bool))) (blocks_2541))])), rfl, (rp_mk_list h3363 (RpAll.mono S3365.sG d3366)), g3367, _, rfl, rfl, _, rfl, ?_⟩
                  refine iteB (fun c3368 => ?_) (fun c3368 => ?_)
                  · have hw := cW_pos c3368 hw
                    have h3369 := (e3361 _ _ h3332)
                    have h3370 := (e3361 _ _ h3334)
                    have h3371 := (e3361 _ _ h3335)
                    have h3372 := (e3361 _ _ h3336)
                    refine ⟨_, rfl, _, rfl, _, rfl, _, rfl, rfl, rfl, G3352, _, _, v2441, _, _, _, _, (⟨v2480.number, v2480.kind, v2480.level, v2480.store, v2480.refs, v2480.weight, v2480.layer, v2480.shown, v2480.edge⟩ : St_PictureHeader), _, _, _, _, rfl, S3365.sG, (hide_nil h3369), (hide_nil h3370), (hide_nil h3371), (hide_nil h3372), (Rp.hide_nil (rp_mk_list (S3365.sG _ _ (eG3353 _ _ (eG3056 _ _ (eG3044 _ _ (eG2773 _ _ (eG2748 _ _ h2743)))))) (RpAll.mono S3365.sG (RpAll.mono eG3353 (RpAll.mono eG3056 (RpAll.mono eG3044 (RpAll.mono eG2773 (RpAll.mono eG2748 d2744)))))))), (rp_mk_list (eG3353 _ _ (eG3056 _ _ (eG3044 _ _ (eG2773 _ _ hg2749)))) (RpAll.mono eG3353 (RpAll.mono eG3056 (RpAll.mono eG3044 (RpAll.mono eG2773 (RpAll.mono eG2748 (RpAll.mono eG2736 d2721))))))), cW_call hw (fun v3373 hw H3374 a3376 vs3377 L3378 G3379 n3380 nb3381 nd3382 e3375 eG3383 sG3384 hn3385 ga3386 gL3387 h3388 w3389 => ?_) (fun e he => (hE e he).elim)⟩
                    have fr3390 := S3365.free n3380
                    have S3391 : Sep _ _ _ _ H3374 (a3376 :: (L3378 ++ (p3357 :: (p2380 :: (x2430 :: (x2446 :: (x2467 :: (l2481 :: (l2482 :: (p2516 :: (a2766 :: (a3049 :: (L2800 ++ (L3102 ++ [])))))))))))))) := Sep.steptree S3365 e3375 eG3383 sG3384 hn3385 (a3376 :: L3378) (all_cons ⟨n3380, ga3386, some_ne h3388⟩ (fun b hb => ⟨nb3381 b hb, gL3387 b hb, OwAll.there w3389 b hb⟩))
                    have h3392 := (e3375 _ _ (e3361 _ _ h3338))
                    have w3393 : OwAll G3379 H3374 L2800 (vs2799) ((due_2798 : (List (List (List Int)))).map (oL (oL oI))) := (OwAll.mono eG3383 keeps_refl (OwAll.mono (Same.refl _) (keeps_same e3375) (OwAll.mono (Same.refl _) (keeps_same e3361) w3350)))
                    refine ⟨_, rfl, _, _, (rp_mk_list h3388 (OwAll.rpA w3389 (encO_L (encO_L encO_I)) S3391.sG)), (rp_mk_list h3392 (OwAll.rpA w3393 (encO_L (encO_L encO_I)) S3391.sG)), ?_⟩
                    have hw := cW_ok hw
                    exact eq_bl (k _) (hK0 _ hw).symm
                  · have hw := cW_negB c3368 hw
                    have hw := cW_ok hw
                    exact eq_bl (k _) (hK0 _ hw).symm
end
def spL (K : PySem.W.Frag) : Sp := fun vs H Q _ => ∃ (a_script : Addr) (script : List Int), vs = [.ref a_script] ∧ SqL K H a_script (script.map V.int) ∧ script.length ≤ 63 ∧ ∀ H', Q (.bl true) H'
def adK (K : PySem.W.Frag) : Ads := ⟨kdA (fun K => He.ma K (He.ga K "PictureHeader") "__init__") "store" K, kdA (fun K => He.ma K (He.ga K "PictureHeader") "__init__") "refs" K, He.ga K "Format", He.ga K "Settings", He.ga K "PictureHeader", He.ga K "CodecError", He.ga K "BadFormat", He.ga K "OutOfRange", He.ga K "BadHeader", He.ga K "KINDS", He.ga K "REF_COUNTS", ikK (fun K => He.ga K "REF_COUNTS") "I" K, ikK (fun K => He.ga K "REF_COUNTS") "P" K, ikK (fun K => He.ga K "REF_COUNTS") "B" K, 0⟩
abbrev dk0 : He5.DefA := ⟨fun K => He.ga K "_law_digits", "_law_digits", "_law_digits", defArgs s__law_digits, defBody s__law_digits, defScope s__law_digits, [], []⟩
abbrev dk1 : He5.DefA := ⟨fun K => He.ma K (He.ga K "Format") "__init__", "__init__", "Format.__init__", defArgs s_Format___init__, defBody s_Format___init__, defScope s_Format___init__, [], [("depth", .int 8), ("chroma", .int 0)]⟩
abbrev dk2 : He5.DefA := ⟨fun K => He.ga K "_require", "_require", "_require", defArgs s__require, defBody s__require, defScope s__require, [], []⟩
abbrev dk3 : He5.DefA := ⟨fun K => He.ma K (He.ga K "Settings") "__init__", "__init__", "Settings.__init__", defArgs s_Settings___init__, defBody s_Settings___init__, defScope s_Settings___init__, [], [("slots", .int 1), ("rows", .int 1), ("deblock", .bl false), ("offset", .bl false), ("layers", .int 1)]⟩
abbrev dk4 : He5.DefA := ⟨fun K => He.ga K "_check_numbers", "_check_numbers", "_check_numbers", defArgs s__check_numbers, defBody s__check_numbers, defScope s__check_numbers, [], []⟩
abbrev dk5 : He5.DefA := ⟨fun K => He.ga K "_check_slots", "_check_slots", "_check_slots", defArgs s__check_slots, defBody s__check_slots, defScope s__check_slots, [], []⟩
abbrev dk6 : He5.DefA := ⟨fun K => He.ma K (He.ga K "PictureHeader") "__init__", "__init__", "PictureHeader.__init__", defArgs s_PictureHeader___init__, defBody s_PictureHeader___init__, defScope s_PictureHeader___init__, [], [("kind", .str "I"), ("level", .int 0), ("store", .adr (kdA (fun K => He.ma K (He.ga K "PictureHeader") "__init__") "store")), ("refs", .adr (kdA (fun K => He.ma K (He.ga K "PictureHeader") "__init__") "refs")), ("weight", .int 8), ("layer", .int 0), ("shown", .bl true), ("edge", .int 0)]⟩
abbrev dk7 : He5.DefA := ⟨fun K => prA "Format" "planes" K, "planes", "Format.planes", defArgs s_Format_planes, defBody s_Format_planes, defScope s_Format_planes, [], []⟩
abbrev dk8 : He5.DefA := ⟨fun K => He.ma K (He.ga K "Format") "blocks", "blocks", "Format.blocks", defArgs s_Format_blocks, defBody s_Format_blocks, defScope s_Format_blocks, [], []⟩
abbrev dk9 : He5.DefA := ⟨fun K => He.ma K (He.ga K "Format") "_plane_size", "_plane_size", "Format._plane_size", defArgs s_Format__plane_size, defBody s_Format__plane_size, defScope s_Format__plane_size, [], []⟩
abbrev dk10 : He5.DefA := ⟨fun K => He.ma K (He.ga K "Format") "coded_size", "coded_size", "Format.coded_size", defArgs s_Format_coded_size, defBody s_Format_coded_size, defScope s_Format_coded_size, [], []⟩
abbrev dk11 : He5.DefA := ⟨fun K => He.ga K "_law_planes", "_law_planes", "_law_planes", defArgs s__law_planes, defBody s__law_planes, defScope s__law_planes, [], []⟩
abbrev dk12 : He5.DefA := ⟨fun K => He.ga K "copy_planes", "copy_planes", "copy_planes", defArgs s_copy_planes, defBody s_copy_planes, defScope s_copy_planes, [], []⟩
abbrev dk13 : He5.DefA := ⟨fun K => He.ga K "step_of", "step_of", "step_of", defArgs s_step_of, defBody s_step_of, defScope s_step_of, [], []⟩
abbrev dk14 : He5.DefA := ⟨fun K => He.ga K "edge_limit", "edge_limit", "edge_limit", defArgs s_edge_limit, defBody s_edge_limit, defScope s_edge_limit, [], []⟩
abbrev dk15 : He5.DefA := ⟨fun K => He.ga K "_limit_between", "_limit_between", "_limit_between", defArgs s__limit_between, defBody s__limit_between, defScope s__limit_between, [], []⟩
abbrev dk16 : He5.DefA := ⟨fun K => He.ga K "_limits", "_limits", "_limits", defArgs s__limits, defBody s__limits, defScope s__limits, [], []⟩
abbrev dk17 : He5.DefA := ⟨fun K => He.ga K "transposed", "transposed", "transposed", defArgs s_transposed, defBody s_transposed, defScope s_transposed, [], []⟩
abbrev dk18 : He5.DefA := ⟨fun K => He.ga K "transposed", "transposed", "transposed", defArgs s_transposed_v_b, defBody s_transposed_v_b, defScope s_transposed_v_b, [], []⟩
abbrev dk19 : He5.DefA := ⟨fun K => He.ga K "block_side", "block_side", "block_side", defArgs s_block_side, defBody s_block_side, defScope s_block_side, [], []⟩
abbrev dk20 : He5.DefA := ⟨fun K => He.ga K "clip", "clip", "clip", defArgs s_clip, defBody s_clip, defScope s_clip, [], []⟩
abbrev dk21 : He5.DefA := ⟨fun K => He.ga K "smooth_edge", "smooth_edge", "smooth_edge", defArgs s_smooth_edge, defBody s_smooth_edge, defScope s_smooth_edge, [], []⟩
abbrev dk22 : He5.DefA := ⟨fun K => He.ga K "_smooth_row", "_smooth_row", "_smooth_row", defArgs s__smooth_row, defBody s__smooth_row, defScope s__smooth_row, [], []⟩
abbrev dk23 : He5.DefA := ⟨fun K => He.ga K "_smooth_rows", "_smooth_rows", "_smooth_rows", defArgs s__smooth_rows, defBody s__smooth_rows, defScope s__smooth_rows, [], []⟩
abbrev dk24 : He5.DefA := ⟨fun K => prA "Format" "top" K, "top", "Format.top", defArgs s_Format_top, defBody s_Format_top, defScope s_Format_top, [], []⟩
abbrev dk25 : He5.DefA := ⟨fun K => He.ga K "deblock", "deblock", "deblock", defArgs s_deblock, defBody s_deblock, defScope s_deblock, [], []⟩
abbrev dk26 : He5.DefA := ⟨fun K => He.ga K "_law_cell", "_law_cell", "_law_cell", defArgs s__law_cell, defBody s__law_cell, defScope s__law_cell, [], []⟩
abbrev dk27 : He5.DefA := ⟨fun K => He.ga K "_law_limit", "_law_limit", "_law_limit", defArgs s__law_limit, defBody s__law_limit, defScope s__law_limit, [], []⟩
abbrev dk28 : He5.DefA := ⟨fun K => He.ga K "_law_pair", "_law_pair", "_law_pair", defArgs s__law_pair, defBody s__law_pair, defScope s__law_pair, [], []⟩
abbrev dk29 : He5.DefA := ⟨fun K => He.ga K "_law_columns", "_law_columns", "_law_columns", defArgs s__law_columns, defBody s__law_columns, defScope s__law_columns, [], []⟩
abbrev dk30 : He5.DefA := ⟨fun K => He.ga K "_law_turned", "_law_turned", "_law_turned", defArgs s__law_turned, defBody s__law_turned, defScope s__law_turned, [], []⟩
abbrev dk31 : He5.DefA := ⟨fun K => He.ga K "_law_turned", "_law_turned", "_law_turned", defArgs s__law_turned_v_b, defBody s__law_turned_v_b, defScope s__law_turned_v_b, [], []⟩
abbrev dk32 : He5.DefA := ⟨fun K => He.ga K "law", "law", "law", defArgs s_law, defBody s_law, defScope s_law, [], []⟩
def fa0 : List FaK := [(fun K => (He.Fa.free "int").ok K), (fun K => (He.Fa.free "range").ok K), (fun K => (He.Fa.int "GREATEST_NUMBER" 999).ok K), (tupK (fun K => He.ga K "KINDS") [.str "I", .str "P", .str "B"]), (fun K => (He.Fa.glo "KINDS").ok K), (fun K => (He.Fa.int "GREATEST_LEVEL" 31).ok K), (fun K => (He.Fa.int "EVEN_WEIGHT" 8).ok K), (fun K => (He.Fa.free "sorted").ok K), (fun K => (He.Fa.free "set").ok K), (tupK (ikK (fun K => He.ga K "REF_COUNTS") "B") [.int 2]), (tupK (ikK (fun K => He.ga K "REF_COUNTS") "P") [.int 1, .int 2]), (tupK (ikK (fun K => He.ga K "REF_COUNTS") "I") [.int 0]), (fun K => (He.Fa.glo "REF_COUNTS").ok K), (dvB (fun K => He.ga K "REF_COUNTS") [.adr (ikK (fun K => He.ga K "REF_COUNTS") "I"), .adr (ikK (fun K => He.ga K "REF_COUNTS") "P"), .adr (ikK (fun K => He.ga K "REF_COUNTS") "B")]), (fun K => (He.Fa.free "len").ok K), (fun K => (He.Fa.free "list").ok K), (fun K => (He.Fa.int "BLOCK" 8).ok K), (fun K => (He.Fa.int "GREATEST_QUANTIZER" 31).ok K), (fun K => (He.Fa.free "zip").ok K), (fun K => (He.Fa.free "min").ok K), (fun K => (He.Fa.free "max").ok K), (fun K => (He.Fa.free "abs").ok K), (fun K => (He.Fa.free "enumerate").ok K), (fun K => (He.Fa.free "repr").ok K), (fun K => (He.Fa.free "isinstance").ok K), (tupK (kdA (fun K => He.ma K (He.ga K "PictureHeader") "__init__") "store") []), (tupK (kdA (fun K => He.ma K (He.ga K "PictureHeader") "__init__") "refs") []), (fun K => (He.Fa.cls "Format").ok K), (fun K => (He.Fa.noat "Format" "width").ok K), (fun K => (He.Fa.noat "Format" "height").ok K)]
def fa1 : List FaK := [(fun K => (He.Fa.noat "Format" "depth").ok K), (fun K => (He.Fa.noat "Format" "chroma").ok K), (fun K => (He.Fa.cls "Settings").ok K), (fun K => (He.Fa.noat "Settings" "fmt").ok K), (fun K => (He.Fa.noat "Settings" "slots").ok K), (fun K => (He.Fa.noat "Settings" "rows").ok K), (fun K => (He.Fa.noat "Settings" "deblock").ok K), (fun K => (He.Fa.noat "Settings" "offset").ok K), (fun K => (He.Fa.noat "Settings" "layers").ok K), (fun K => (He.Fa.cls "PictureHeader").ok K), (fun K => (He.Fa.noat "PictureHeader" "number").ok K), (fun K => (He.Fa.noat "PictureHeader" "kind").ok K), (fun K => (He.Fa.noat "PictureHeader" "level").ok K), (fun K => (He.Fa.noat "PictureHeader" "store").ok K), (fun K => (He.Fa.noat "PictureHeader" "refs").ok K), (fun K => (He.Fa.noat "PictureHeader" "weight").ok K), (fun K => (He.Fa.noat "PictureHeader" "layer").ok K), (fun K => (He.Fa.noat "PictureHeader" "shown").ok K), (fun K => (He.Fa.noat "PictureHeader" "edge").ok K), (fun K => (He.Fa.exc "BadFormat").ok K), (fun K => (He.Fa.glo "BadFormat").ok K), (fun K => (He.Fa.exc "BadHeader").ok K), (fun K => (He.Fa.glo "BadHeader").ok K), (fun K => (He.Fa.exc "OutOfRange").ok K), (fun K => (He.Fa.glo "OutOfRange").ok K), (fun K => (He.Fa.glo "_law_digits").ok K), (fun K => (He.Fa.mkr "Format").ok K), (fun K => (He.Fa.glo "Format").ok K), (fun K => (He.Fa.glo "_require").ok K), (fun K => (He.Fa.mkr "Settings").ok K)]
def fa2 : List FaK := [(fun K => (He.Fa.glo "Settings").ok K), (fun K => (He.Fa.glo "_check_numbers").ok K), (fun K => (He.Fa.glo "_check_slots").ok K), (fun K => (He.Fa.mkr "PictureHeader").ok K), (fun K => (He.Fa.glo "PictureHeader").ok K), (prpB "Format" "planes"), (fun K => (He.Fa.meth "Format" "blocks").ok K), (fun K => (He.Fa.meth "Format" "_plane_size").ok K), (fun K => (He.Fa.meth "Format" "coded_size").ok K), (fun K => (He.Fa.glo "_law_planes").ok K), (fun K => (He.Fa.glo "copy_planes").ok K), (fun K => (He.Fa.glo "step_of").ok K), (fun K => (He.Fa.glo "edge_limit").ok K), (fun K => (He.Fa.glo "_limit_between").ok K), (fun K => (He.Fa.glo "_limits").ok K), (fun K => (He.Fa.glo "transposed").ok K), (fun K => (He.Fa.glo "block_side").ok K), (fun K => (He.Fa.glo "clip").ok K), (fun K => (He.Fa.glo "smooth_edge").ok K), (fun K => (He.Fa.glo "_smooth_row").ok K), (fun K => (He.Fa.glo "_smooth_rows").ok K), (prpB "Format" "top"), (fun K => (He.Fa.glo "deblock").ok K), (fun K => (He.Fa.glo "_law_cell").ok K), (fun K => (He.Fa.glo "_law_limit").ok K), (fun K => (He.Fa.glo "_law_pair").ok K), (fun K => (He.Fa.glo "_law_columns").ok K), (fun K => (He.Fa.glo "_law_turned").ok K), (fun K => (He.Fa.glo "law").ok K)]
def fas : List (List FaK) := [fa0, fa1, fa2]
def fn0 : List He5.DefA := [dk0, dk1, dk2, dk3, dk4, dk5, dk6, dk7, dk8, dk9, dk10, dk11, dk12, dk13, dk14, dk15, dk16, dk17, dk18, dk19, dk20, dk21, dk22, dk23, dk24, dk25, dk26, dk27, dk28, dk29]
def fn1 : List He5.DefA := [dk30, dk31, dk32]
def fns : List He5.DefA := fn0 ++ fn1
def tbs : List He.Tab := [((fun K => He.ga K "REF_COUNTS"), ["I", "P", "B"])]
def nms0 : List Str := ["_wall", "__name__", "clip", "CodecError", "BadFormat", "OutOfRange", "BadHeader", "BLOCK", "Format", "copy_planes", "block_side", "GREATEST_QUANTIZER", "step_of", "transposed", "edge_limit", "smooth_edge", "deblock", "_limits", "_limit_between", "_smooth_rows", "_smooth_row", "KINDS", "REF_COUNTS", "EVEN_WEIGHT", "GREATEST_NUMBER", "GREATEST_LEVEL", "Settings", "PictureHeader", "_require", "_check_numbers"]
def nms1 : List Str := ["_check_slots", "_law_cell", "_law_digits", "_law_planes", "_law_limit", "_law_pair", "_law_columns", "_law_turned"]
def nms : List Str := nms0 ++ nms1
abbrev RowK : PySem.W.OpenRow := PySem.W.OpenLaw.row PySem.Challenge.rw_thaumatrope_k57_whole_pictures_deblocked
abbrev hkK : PySem.W.Hook := hookK 6 fas fns tbs
def obK (s : PySem.W.SharedT) : AlK := obsKG 6 fas fns tbs (HandSHeadRun.getT s)
theorem obK_eq (s : PySem.W.SharedT) : obK s = hkK.obs s.abs := obsKG_eq (HandSHeadRun.getT_eq s)
theorem runK0 (w : World) : HandSHeadRun.RunEq RowK (PySem.W.view RowK.prog [46]) hkK obK 20000 nms (w.withFollow "special-get-raises" false) := by
  intro os
  kernel_rfl
theorem runK1 (w : World) : HandSHeadRun.RunEq RowK (PySem.W.view RowK.prog [46]) hkK obK 20000 nms (w.withFollow "special-get-raises" true) := by
  intro os
  kernel_rfl
theorem runK (w : World) : HandSHeadRun.RunEq RowK (PySem.W.view RowK.prog [46]) hkK obK 20000 nms w := PySem.W.byRow2 "special-get-raises" runK0 runK1 w
section
variable {P : Program} {w : World} {K : PySem.W.Frag} {h : Heap} {mg : Str → Option Value} (X : K.In h) (G : h.Ns mainGlobals mg) (c : SaysK fas fns tbs w K)
include X G c
theorem T_ : Txt w K mg (adK K) := ⟨He.free_ok X G (c.fact 0 0 (l := fa0) (f := (fun K => (He.Fa.free "int").ok K)) rfl rfl), He.free_ok X G (c.fact 0 1 (l := fa0) (f := (fun K => (He.Fa.free "range").ok K)) rfl rfl), (Exists.elim (He.int_ok X G (c.fact 0 2 (l := fa0) (f := (fun K => (He.Fa.int "GREATEST_NUMBER" 999).ok K)) rfl rfl)) fun t e => ⟨_, e, ⟨t, rfl⟩⟩), ⟨_, (He.glo_ok X G (c.fact 0 4 (l := fa0) (f := (fun K => (He.Fa.glo "KINDS").ok K)) rfl rfl)), rfl⟩, fun H => tupK_ok (c.fact 0 3 (l := fa0) (f := (tupK (fun K => He.ga K "KINDS") [.str "I", .str "P", .str "B"])) rfl rfl) H, (Exists.elim (He.int_ok X G (c.fact 0 5 (l := fa0) (f := (fun K => (He.Fa.int "GREATEST_LEVEL" 31).ok K)) rfl rfl)) fun t e => ⟨_, e, ⟨t, rfl⟩⟩), (Exists.elim (He.int_ok X G (c.fact 0 6 (l := fa0) (f := (fun K => (He.Fa.int "EVEN_WEIGHT" 8).ok K)) rfl rfl)) fun t e => ⟨_, e, ⟨t, rfl⟩⟩), He.free_ok X G (c.fact 0 7 (l := fa0) (f := (fun K => (He.Fa.free "sorted").ok K)) rfl rfl), He.free_ok X G (c.fact 0 8 (l := fa0) (f := (fun K => (He.Fa.free "set").ok K)) rfl rfl), ⟨_, (He.glo_ok X G (c.fact 0 12 (l := fa0) (f := (fun K => (He.Fa.glo "REF_COUNTS").ok K)) rfl rfl)), rfl⟩, kda_of (a := (fun K => He.ga K "REF_COUNTS")) (kvs := [("I", (ikK (fun K => He.ga K "REF_COUNTS") "I")), ("P", (ikK (fun K => He.ga K "REF_COUNTS") "P")), ("B", (ikK (fun K => He.ga K "REF_COUNTS") "B"))]) (c.tab 0 rfl) (c.fact 0 13 (l := fa0) (f := (dvB (fun K => He.ga K "REF_COUNTS") [.adr (ikK (fun K => He.ga K "REF_COUNTS") "I"), .adr (ikK (fun K => He.ga K "REF_COUNTS") "P"), .adr (ikK (fun K => He.ga K "REF_COUNTS") "B")])) rfl rfl), fun z h => F2.hasK (P := fun (a : Addr) (xs : List Int) => ∀ H, SqT K H a (xs.map V.int)) (.cons ⟨rfl, fun H => by exact tupK_ok (c.fact 0 11 (l := fa0) (f := (tupK (ikK (fun K => He.ga K "REF_COUNTS") "I") [.int 0])) rfl rfl) H⟩ (.cons ⟨rfl, fun H => by exact tupK_ok (c.fact 0 10 (l := fa0) (f := (tupK (ikK (fun K => He.ga K "REF_COUNTS") "P") [.int 1, .int 2])) rfl rfl) H⟩ (.cons ⟨rfl, fun H => by exact tupK_ok (c.fact 0 9 (l := fa0) (f := (tupK (ikK (fun K => He.ga K "REF_COUNTS") "B") [.int 2])) rfl rfl) H⟩ .nil))) h, fun z h => F2.look (P := fun (a : Addr) (xs : List Int) => ∀ H, SqT K H a (xs.map V.int)) (.cons ⟨rfl, fun H => by exact tupK_ok (c.fact 0 11 (l := fa0) (f := (tupK (ikK (fun K => He.ga K "REF_COUNTS") "I") [.int 0])) rfl rfl) H⟩ (.cons ⟨rfl, fun H => by exact tupK_ok (c.fact 0 10 (l := fa0) (f := (tupK (ikK (fun K => He.ga K "REF_COUNTS") "P") [.int 1, .int 2])) rfl rfl) H⟩ (.cons ⟨rfl, fun H => by exact tupK_ok (c.fact 0 9 (l := fa0) (f := (tupK (ikK (fun K => He.ga K "REF_COUNTS") "B") [.int 2])) rfl rfl) H⟩ .nil))) h, He.free_ok X G (c.fact 0 14 (l := fa0) (f := (fun K => (He.Fa.free "len").ok K)) rfl rfl), He.free_ok X G (c.fact 0 15 (l := fa0) (f := (fun K => (He.Fa.free "list").ok K)) rfl rfl), (Exists.elim (He.int_ok X G (c.fact 0 16 (l := fa0) (f := (fun K => (He.Fa.int "BLOCK" 8).ok K)) rfl rfl)) fun t e => ⟨_, e, ⟨t, rfl⟩⟩), (Exists.elim (He.int_ok X G (c.fact 0 17 (l := fa0) (f := (fun K => (He.Fa.int "GREATEST_QUANTIZER" 31).ok K)) rfl rfl)) fun t e => ⟨_, e, ⟨t, rfl⟩⟩), He.free_ok X G (c.fact 0 18 (l := fa0) (f := (fun K => (He.Fa.free "zip").ok K)) rfl rfl), He.free_ok X G (c.fact 0 19 (l := fa0) (f := (fun K => (He.Fa.free "min").ok K)) rfl rfl), He.free_ok X G (c.fact 0 20 (l := fa0) (f := (fun K => (He.Fa.free "max").ok K)) rfl rfl), He.free_ok X G (c.fact 0 21 (l := fa0) (f := (fun K => (He.Fa.free "abs").ok K)) rfl rfl), He.free_ok X G (c.fact 0 22 (l := fa0) (f := (fun K => (He.Fa.free "enumerate").ok K)) rfl rfl), He.free_ok X G (c.fact 0 23 (l := fa0) (f := (fun K => (He.Fa.free "repr").ok K)) rfl rfl), He.free_ok X G (c.fact 0 24 (l := fa0) (f := (fun K => (He.Fa.free "isinstance").ok K)) rfl rfl), fun H => tupK_ok (a := kdA (fun K => He.ma K (He.ga K "PictureHeader") "__init__") "store") (c.fact 0 25 (l := fa0) (f := (tupK (kdA (fun K => He.ma K (He.ga K "PictureHeader") "__init__") "store") [])) rfl rfl) H, fun H => tupK_ok (a := kdA (fun K => He.ma K (He.ga K "PictureHeader") "__init__") "refs") (c.fact 0 26 (l := fa0) (f := (tupK (kdA (fun K => He.ma K (He.ga K "PictureHeader") "__init__") "refs") [])) rfl rfl) H, He.cls_ok (c.fact 0 27 (l := fa0) (f := (fun K => (He.Fa.cls "Format").ok K)) rfl rfl), He.noat_ok (c.fact 0 28 (l := fa0) (f := (fun K => (He.Fa.noat "Format" "width").ok K)) rfl rfl), He.noat_ok (c.fact 0 29 (l := fa0) (f := (fun K => (He.Fa.noat "Format" "height").ok K)) rfl rfl), He.noat_ok (c.fact 1 0 (l := fa1) (f := (fun K => (He.Fa.noat "Format" "depth").ok K)) rfl rfl), He.noat_ok (c.fact 1 1 (l := fa1) (f := (fun K => (He.Fa.noat "Format" "chroma").ok K)) rfl rfl), He.cls_ok (c.fact 1 2 (l := fa1) (f := (fun K => (He.Fa.cls "Settings").ok K)) rfl rfl), He.noat_ok (c.fact 1 3 (l := fa1) (f := (fun K => (He.Fa.noat "Settings" "fmt").ok K)) rfl rfl), He.noat_ok (c.fact 1 4 (l := fa1) (f := (fun K => (He.Fa.noat "Settings" "slots").ok K)) rfl rfl), He.noat_ok (c.fact 1 5 (l := fa1) (f := (fun K => (He.Fa.noat "Settings" "rows").ok K)) rfl rfl), He.noat_ok (c.fact 1 6 (l := fa1) (f := (fun K => (He.Fa.noat "Settings" "deblock").ok K)) rfl rfl), He.noat_ok (c.fact 1 7 (l := fa1) (f := (fun K => (He.Fa.noat "Settings" "offset").ok K)) rfl rfl), He.noat_ok (c.fact 1 8 (l := fa1) (f := (fun K => (He.Fa.noat "Settings" "layers").ok K)) rfl rfl), He.cls_ok (c.fact 1 9 (l := fa1) (f := (fun K => (He.Fa.cls "PictureHeader").ok K)) rfl rfl), He.noat_ok (c.fact 1 10 (l := fa1) (f := (fun K => (He.Fa.noat "PictureHeader" "number").ok K)) rfl rfl), He.noat_ok (c.fact 1 11 (l := fa1) (f := (fun K => (He.Fa.noat "PictureHeader" "kind").ok K)) rfl rfl), He.noat_ok (c.fact 1 12 (l := fa1) (f := (fun K => (He.Fa.noat "PictureHeader" "level").ok K)) rfl rfl), He.noat_ok (c.fact 1 13 (l := fa1) (f := (fun K => (He.Fa.noat "PictureHeader" "store").ok K)) rfl rfl), He.noat_ok (c.fact 1 14 (l := fa1) (f := (fun K => (He.Fa.noat "PictureHeader" "refs").ok K)) rfl rfl), He.noat_ok (c.fact 1 15 (l := fa1) (f := (fun K => (He.Fa.noat "PictureHeader" "weight").ok K)) rfl rfl), He.noat_ok (c.fact 1 16 (l := fa1) (f := (fun K => (He.Fa.noat "PictureHeader" "layer").ok K)) rfl rfl), He.noat_ok (c.fact 1 17 (l := fa1) (f := (fun K => (He.Fa.noat "PictureHeader" "shown").ok K)) rfl rfl), He.noat_ok (c.fact 1 18 (l := fa1) (f := (fun K => (He.Fa.noat "PictureHeader" "edge").ok K)) rfl rfl), (He.glo_ok X G (c.fact 1 20 (l := fa1) (f := (fun K => (He.Fa.glo "BadFormat").ok K)) rfl rfl)), (He.exc_ok (c.fact 1 19 (l := fa1) (f := (fun K => (He.Fa.exc "BadFormat").ok K)) rfl rfl)).1, (He.exc_ok (c.fact 1 19 (l := fa1) (f := (fun K => (He.Fa.exc "BadFormat").ok K)) rfl rfl)).2.1, (He.exc_ok (c.fact 1 19 (l := fa1) (f := (fun K => (He.Fa.exc "BadFormat").ok K)) rfl rfl)).2.2.1, (He.exc_ok (c.fact 1 19 (l := fa1) (f := (fun K => (He.Fa.exc "BadFormat").ok K)) rfl rfl)).2.2.2, (He.glo_ok X G (c.fact 1 22 (l := fa1) (f := (fun K => (He.Fa.glo "BadHeader").ok K)) rfl rfl)), (He.exc_ok (c.fact 1 21 (l := fa1) (f := (fun K => (He.Fa.exc "BadHeader").ok K)) rfl rfl)).1, (He.exc_ok (c.fact 1 21 (l := fa1) (f := (fun K => (He.Fa.exc "BadHeader").ok K)) rfl rfl)).2.1, (He.exc_ok (c.fact 1 21 (l := fa1) (f := (fun K => (He.Fa.exc "BadHeader").ok K)) rfl rfl)).2.2.1, (He.exc_ok (c.fact 1 21 (l := fa1) (f := (fun K => (He.Fa.exc "BadHeader").ok K)) rfl rfl)).2.2.2, (He.glo_ok X G (c.fact 1 24 (l := fa1) (f := (fun K => (He.Fa.glo "OutOfRange").ok K)) rfl rfl)), (He.exc_ok (c.fact 1 23 (l := fa1) (f := (fun K => (He.Fa.exc "OutOfRange").ok K)) rfl rfl)).1, (He.exc_ok (c.fact 1 23 (l := fa1) (f := (fun K => (He.Fa.exc "OutOfRange").ok K)) rfl rfl)).2.1, (He.exc_ok (c.fact 1 23 (l := fa1) (f := (fun K => (He.Fa.exc "OutOfRange").ok K)) rfl rfl)).2.2.1, (He.exc_ok (c.fact 1 23 (l := fa1) (f := (fun K => (He.Fa.exc "OutOfRange").ok K)) rfl rfl)).2.2.2⟩
theorem D_0 : DefX K mg "_law_digits" s__law_digits ["cell", "base", "most"] pats__law_digits := by
  obtain ⟨fd0, F0⟩ : ∃ fd, FunD K "_law_digits" "_law_digits" (defArgs s__law_digits) (defBody s__law_digits) (defScope s__law_digits) [] [] (He.ga K "_law_digits") fd := c.def_ 0 (d := dk0) rfl
  obtain ⟨kV, dc, pm, an, cd, ct, rfl⟩ := fnD_ex F0
  exact ⟨_, _, _, _, F0, (He.glo_ok X G (c.fact 1 25 (l := fa1) (f := (fun K => (He.Fa.glo "_law_digits").ok K)) rfl rfl)), (all_consQ (Bnd.all fun us ws vs zs l1 l2 r rz => by
      obtain ⟨u0, u1, u2, rfl⟩ := len3 (r.length.symm.trans l1)
      obtain rfl := len0 (rz.length.symm.trans l2)
      cases r with | cons r0 r =>
        cases r with | cons r1 r =>
          cases r with | cons r2 r =>
            cases r
            cases rz
            exact ⟨[u0, u1, u2], rfl, (.cons r0 (.cons r1 (.cons r2 .nil)))⟩) all_nilQ)⟩
theorem D_1 : InitX K mg (He.ga K "Format") "Format" "Format.__init__" s_Format___init__ ["self", "width", "height", "depth", "chroma"] pats_Format___init__ := by
  obtain ⟨fd0, F1⟩ : ∃ fd, FunD K "__init__" "Format.__init__" (defArgs s_Format___init__) (defBody s_Format___init__) (defScope s_Format___init__) [] [("depth", V.int 8), ("chroma", V.int 0)] (He.ma K (He.ga K "Format") "__init__") fd := c.def_ 1 (d := dk1) rfl
  obtain ⟨kV, dc, pm, an, cd, ct, rfl⟩ := fnD_ex F1
  exact ⟨_, _, _, _, F1, He.mkr_ok (c.fact 1 26 (l := fa1) (f := (fun K => (He.Fa.mkr "Format").ok K)) rfl rfl), (He.glo_ok X G (c.fact 1 27 (l := fa1) (f := (fun K => (He.Fa.glo "Format").ok K)) rfl rfl)), (all_consQ (Bnd.all fun us ws vs zs l1 l2 r rz => by
      obtain ⟨u0, u1, u2, rfl⟩ := len3 (r.length.symm.trans l1)
      obtain ⟨w0, w1, rfl⟩ := len2 (rz.length.symm.trans l2)
      cases r with | cons r0 r =>
        cases r with | cons r1 r =>
          cases r with | cons r2 r =>
            cases r
            cases rz with | cons q0 rz =>
              cases rz with | cons q1 rz =>
                cases rz
                exact ⟨[u0, u1, u2, w0, w1], rfl, (.cons r0 (.cons r1 (.cons r2 (.cons q0 (.cons q1 .nil)))))⟩) all_nilQ)⟩
theorem D_2 : DefX K mg "_require" s__require ["holds", "text"] pats__require := by
  obtain ⟨fd0, F2⟩ : ∃ fd, FunD K "_require" "_require" (defArgs s__require) (defBody s__require) (defScope s__require) [] [] (He.ga K "_require") fd := c.def_ 2 (d := dk2) rfl
  obtain ⟨kV, dc, pm, an, cd, ct, rfl⟩ := fnD_ex F2
  exact ⟨_, _, _, _, F2, (He.glo_ok X G (c.fact 1 28 (l := fa1) (f := (fun K => (He.Fa.glo "_require").ok K)) rfl rfl)), (all_consQ (Bnd.all fun us ws vs zs l1 l2 r rz => by
      obtain ⟨u0, u1, rfl⟩ := len2 (r.length.symm.trans l1)
      obtain rfl := len0 (rz.length.symm.trans l2)
      cases r with | cons r0 r =>
        cases r with | cons r1 r =>
          cases r
          cases rz
          exact ⟨[u0, u1], rfl, (.cons r0 (.cons r1 .nil))⟩) all_nilQ)⟩
theorem D_3 : InitX K mg (He.ga K "Settings") "Settings" "Settings.__init__" s_Settings___init__ ["self", "fmt", "slots", "rows", "deblock", "offset", "layers"] pats_Settings___init__ := by
  obtain ⟨fd0, F3⟩ : ∃ fd, FunD K "__init__" "Settings.__init__" (defArgs s_Settings___init__) (defBody s_Settings___init__) (defScope s_Settings___init__) [] [("slots", V.int 1), ("rows", V.int 1), ("deblock", V.bl false), ("offset", V.bl false), ("layers", V.int 1)] (He.ma K (He.ga K "Settings") "__init__") fd := c.def_ 3 (d := dk3) rfl
  obtain ⟨kV, dc, pm, an, cd, ct, rfl⟩ := fnD_ex F3
  exact ⟨_, _, _, _, F3, He.mkr_ok (c.fact 1 29 (l := fa1) (f := (fun K => (He.Fa.mkr "Settings").ok K)) rfl rfl), (He.glo_ok X G (c.fact 2 0 (l := fa2) (f := (fun K => (He.Fa.glo "Settings").ok K)) rfl rfl)), (all_consQ (Exists.elim (FunD.kbinds0 F3 2 ["deblock"] [("slots", V.int 1), ("rows", V.int 1), ("offset", V.bl false), ("layers", V.int 1)] (fun {α} => gk_Settings___init___0 (α := α)) (by simp) (by simp) (fun r s q => gkrel_Settings___init___0 r s q) (fun D doc pm an cdv ct us mv ws h1 h2 h3 => by
        obtain ⟨u0, u1, rfl⟩ := len2 h1
        obtain ⟨m0, m1, m2, m3, rfl⟩ := len4 h2
        obtain ⟨w0, rfl⟩ := len1 h3
        exact ⟨_, _, _, _, _, _, rfl, rfl, ⟨_, _, _, _, _, _, rfl, rfl, ⟨_, _, _, _, _, _, rfl, rfl, ⟨_, _, _, _, _, _, rfl, rfl, rfl⟩⟩⟩⟩)) fun _ hb => Bnd.of_kbn hb) all_nilQ)⟩
theorem D_4 : DefX K mg "_check_numbers" s__check_numbers ["settings", "header"] pats__check_numbers := by
  obtain ⟨fd0, F4⟩ : ∃ fd, FunD K "_check_numbers" "_check_numbers" (defArgs s__check_numbers) (defBody s__check_numbers) (defScope s__check_numbers) [] [] (He.ga K "_check_numbers") fd := c.def_ 4 (d := dk4) rfl
  obtain ⟨kV, dc, pm, an, cd, ct, rfl⟩ := fnD_ex F4
  exact ⟨_, _, _, _, F4, (He.glo_ok X G (c.fact 2 1 (l := fa2) (f := (fun K => (He.Fa.glo "_check_numbers").ok K)) rfl rfl)), (all_consQ (Bnd.all fun us ws vs zs l1 l2 r rz => by
      obtain ⟨u0, u1, rfl⟩ := len2 (r.length.symm.trans l1)
      obtain rfl := len0 (rz.length.symm.trans l2)
      cases r with | cons r0 r =>
        cases r with | cons r1 r =>
          cases r
          cases rz
          exact ⟨[u0, u1], rfl, (.cons r0 (.cons r1 .nil))⟩) all_nilQ)⟩
theorem D_5 : DefX K mg "_check_slots" s__check_slots ["settings", "header"] pats__check_slots := by
  obtain ⟨fd0, F5⟩ : ∃ fd, FunD K "_check_slots" "_check_slots" (defArgs s__check_slots) (defBody s__check_slots) (defScope s__check_slots) [] [] (He.ga K "_check_slots") fd := c.def_ 5 (d := dk5) rfl
  obtain ⟨kV, dc, pm, an, cd, ct, rfl⟩ := fnD_ex F5
  exact ⟨_, _, _, _, F5, (He.glo_ok X G (c.fact 2 2 (l := fa2) (f := (fun K => (He.Fa.glo "_check_slots").ok K)) rfl rfl)), (all_consQ (Bnd.all fun us ws vs zs l1 l2 r rz => by
      obtain ⟨u0, u1, rfl⟩ := len2 (r.length.symm.trans l1)
      obtain rfl := len0 (rz.length.symm.trans l2)
      cases r with | cons r0 r =>
        cases r with | cons r1 r =>
          cases r
          cases rz
          exact ⟨[u0, u1], rfl, (.cons r0 (.cons r1 .nil))⟩) all_nilQ)⟩
theorem D_6 : InitX K mg (He.ga K "PictureHeader") "PictureHeader" "PictureHeader.__init__" s_PictureHeader___init__ ["self", "settings", "number", "kind", "level", "store", "refs", "weight", "layer", "shown", "edge"] (pats_PictureHeader___init__ (adK K)) := by
  obtain ⟨fd0, F6⟩ : ∃ fd, FunD K "__init__" "PictureHeader.__init__" (defArgs s_PictureHeader___init__) (defBody s_PictureHeader___init__) (defScope s_PictureHeader___init__) [] [("kind", V.str "I"), ("level", V.int 0), ("store", V.ref (kdA (fun K => He.ma K (He.ga K "PictureHeader") "__init__") "store" K)), ("refs", V.ref (kdA (fun K => He.ma K (He.ga K "PictureHeader") "__init__") "refs" K)), ("weight", V.int 8), ("layer", V.int 0), ("shown", V.bl true), ("edge", V.int 0)] (He.ma K (He.ga K "PictureHeader") "__init__") fd := c.def_ 6 (d := dk6) rfl
  obtain ⟨kV, dc, pm, an, cd, ct, rfl⟩ := fnD_ex F6
  exact ⟨_, _, _, _, F6, He.mkr_ok (c.fact 2 3 (l := fa2) (f := (fun K => (He.Fa.mkr "PictureHeader").ok K)) rfl rfl), (He.glo_ok X G (c.fact 2 4 (l := fa2) (f := (fun K => (He.Fa.glo "PictureHeader").ok K)) rfl rfl)), (all_consQ (Exists.elim (FunD.kbinds0 F6 2 ["number", "level", "edge"] [("kind", V.str "I"), ("store", V.ref (kdA (fun K => He.ma K (He.ga K "PictureHeader") "__init__") "store" K)), ("refs", V.ref (kdA (fun K => He.ma K (He.ga K "PictureHeader") "__init__") "refs" K)), ("weight", V.int 8), ("layer", V.int 0), ("shown", V.bl true)] (fun {α} => gk_PictureHeader___init___0 (α := α)) (by simp) (by simp) (fun r s q => gkrel_PictureHeader___init___0 r s q) (fun D doc pm an cdv ct us mv ws h1 h2 h3 => by
        obtain ⟨u0, u1, rfl⟩ := len2 h1
        obtain ⟨m0, m1, m2, m3, m4, m5, rfl⟩ := len6 h2
        obtain ⟨w0, w1, w2, rfl⟩ := len3 h3
        exact ⟨_, _, _, _, _, _, rfl, rfl, ⟨_, _, _, _, _, _, rfl, rfl, ⟨_, _, _, _, _, _, rfl, rfl, ⟨_, _, _, _, _, _, rfl, rfl, ⟨_, _, _, _, _, _, rfl, rfl, ⟨_, _, _, _, _, _, rfl, rfl, rfl⟩⟩⟩⟩⟩⟩)) fun _ hb => Bnd.of_kbn hb) all_nilQ)⟩
theorem D_7 : PropX K (He.ga K "Format") "Format.planes" "planes" s_Format_planes ["self"] pats_Format_planes := by
  obtain ⟨fd0, F7⟩ : ∃ fd, FunD K "planes" "Format.planes" (defArgs s_Format_planes) (defBody s_Format_planes) (defScope s_Format_planes) [] [] (prA "Format" "planes" K) fd := c.def_ 7 (d := dk7) rfl
  obtain ⟨kV, dc, pm, an, cd, ct, rfl⟩ := fnD_ex F7
  obtain ⟨e1, e2, e3, rs, e4⟩ := prpB_ok (c.fact 2 5 (l := fa2) (f := (prpB "Format" "planes")) rfl rfl)
  exact ⟨_, _, _, _, _, F7, ⟨e1, e2, e3, _, e4⟩, FunD.bindsN F7 (fun _ _ _ _ _ _ us h => by obtain ⟨u0, rfl⟩ := len1 h; rfl)⟩
theorem D_8 : MethX K (He.ga K "Format") "Format.blocks" "blocks" s_Format_blocks ["self"] pats_Format_blocks := by
  obtain ⟨fd0, F8⟩ : ∃ fd, FunD K "blocks" "Format.blocks" (defArgs s_Format_blocks) (defBody s_Format_blocks) (defScope s_Format_blocks) [] [] (He.ma K (He.ga K "Format") "blocks") fd := c.def_ 8 (d := dk8) rfl
  obtain ⟨kV, dc, pm, an, cd, ct, rfl⟩ := fnD_ex F8
  exact ⟨_, _, _, _, F8, He.meth_ok (c.fact 2 6 (l := fa2) (f := (fun K => (He.Fa.meth "Format" "blocks").ok K)) rfl rfl), (all_consQ (Bnd.all fun us ws vs zs l1 l2 r rz => by
      obtain ⟨u0, rfl⟩ := len1 (r.length.symm.trans l1)
      obtain rfl := len0 (rz.length.symm.trans l2)
      cases r with | cons r0 r =>
        cases r
        cases rz
        exact ⟨[u0], rfl, (.cons r0 .nil)⟩) all_nilQ)⟩
theorem D_9 : MethX K (He.ga K "Format") "Format._plane_size" "_plane_size" s_Format__plane_size ["self", "plane", "width", "height"] pats_Format__plane_size := by
  obtain ⟨fd0, F9⟩ : ∃ fd, FunD K "_plane_size" "Format._plane_size" (defArgs s_Format__plane_size) (defBody s_Format__plane_size) (defScope s_Format__plane_size) [] [] (He.ma K (He.ga K "Format") "_plane_size") fd := c.def_ 9 (d := dk9) rfl
  obtain ⟨kV, dc, pm, an, cd, ct, rfl⟩ := fnD_ex F9
  exact ⟨_, _, _, _, F9, He.meth_ok (c.fact 2 7 (l := fa2) (f := (fun K => (He.Fa.meth "Format" "_plane_size").ok K)) rfl rfl), (all_consQ (Bnd.all fun us ws vs zs l1 l2 r rz => by
      obtain ⟨u0, u1, u2, u3, rfl⟩ := len4 (r.length.symm.trans l1)
      obtain rfl := len0 (rz.length.symm.trans l2)
      cases r with | cons r0 r =>
        cases r with | cons r1 r =>
          cases r with | cons r2 r =>
            cases r with | cons r3 r =>
              cases r
              cases rz
              exact ⟨[u0, u1, u2, u3], rfl, (.cons r0 (.cons r1 (.cons r2 (.cons r3 .nil))))⟩) all_nilQ)⟩
theorem D_10 : MethX K (He.ga K "Format") "Format.coded_size" "coded_size" s_Format_coded_size ["self", "plane"] pats_Format_coded_size := by
  obtain ⟨fd0, F10⟩ : ∃ fd, FunD K "coded_size" "Format.coded_size" (defArgs s_Format_coded_size) (defBody s_Format_coded_size) (defScope s_Format_coded_size) [] [] (He.ma K (He.ga K "Format") "coded_size") fd := c.def_ 10 (d := dk10) rfl
  obtain ⟨kV, dc, pm, an, cd, ct, rfl⟩ := fnD_ex F10
  exact ⟨_, _, _, _, F10, He.meth_ok (c.fact 2 8 (l := fa2) (f := (fun K => (He.Fa.meth "Format" "coded_size").ok K)) rfl rfl), (all_consQ (Bnd.all fun us ws vs zs l1 l2 r rz => by
      obtain ⟨u0, u1, rfl⟩ := len2 (r.length.symm.trans l1)
      obtain rfl := len0 (rz.length.symm.trans l2)
      cases r with | cons r0 r =>
        cases r with | cons r1 r =>
          cases r
          cases rz
          exact ⟨[u0, u1], rfl, (.cons r0 (.cons r1 .nil))⟩) all_nilQ)⟩
theorem D_11 : DefX K mg "_law_planes" s__law_planes ["cell", "fmt", "top"] pats__law_planes := by
  obtain ⟨fd0, F11⟩ : ∃ fd, FunD K "_law_planes" "_law_planes" (defArgs s__law_planes) (defBody s__law_planes) (defScope s__law_planes) [] [] (He.ga K "_law_planes") fd := c.def_ 11 (d := dk11) rfl
  obtain ⟨kV, dc, pm, an, cd, ct, rfl⟩ := fnD_ex F11
  exact ⟨_, _, _, _, F11, (He.glo_ok X G (c.fact 2 9 (l := fa2) (f := (fun K => (He.Fa.glo "_law_planes").ok K)) rfl rfl)), (all_consQ (Bnd.all fun us ws vs zs l1 l2 r rz => by
      obtain ⟨u0, u1, u2, rfl⟩ := len3 (r.length.symm.trans l1)
      obtain rfl := len0 (rz.length.symm.trans l2)
      cases r with | cons r0 r =>
        cases r with | cons r1 r =>
          cases r with | cons r2 r =>
            cases r
            cases rz
            exact ⟨[u0, u1, u2], rfl, (.cons r0 (.cons r1 (.cons r2 .nil)))⟩) all_nilQ)⟩
theorem D_12 : DefX K mg "copy_planes" s_copy_planes ["planes"] pats_copy_planes := by
  obtain ⟨fd0, F12⟩ : ∃ fd, FunD K "copy_planes" "copy_planes" (defArgs s_copy_planes) (defBody s_copy_planes) (defScope s_copy_planes) [] [] (He.ga K "copy_planes") fd := c.def_ 12 (d := dk12) rfl
  obtain ⟨kV, dc, pm, an, cd, ct, rfl⟩ := fnD_ex F12
  exact ⟨_, _, _, _, F12, (He.glo_ok X G (c.fact 2 10 (l := fa2) (f := (fun K => (He.Fa.glo "copy_planes").ok K)) rfl rfl)), (all_consQ (Bnd.all fun us ws vs zs l1 l2 r rz => by
      obtain ⟨u0, rfl⟩ := len1 (r.length.symm.trans l1)
      obtain rfl := len0 (rz.length.symm.trans l2)
      cases r with | cons r0 r =>
        cases r
        cases rz
        exact ⟨[u0], rfl, (.cons r0 .nil)⟩) all_nilQ)⟩
theorem D_13 : DefX K mg "step_of" s_step_of ["quantizer"] pats_step_of := by
  obtain ⟨fd0, F13⟩ : ∃ fd, FunD K "step_of" "step_of" (defArgs s_step_of) (defBody s_step_of) (defScope s_step_of) [] [] (He.ga K "step_of") fd := c.def_ 13 (d := dk13) rfl
  obtain ⟨kV, dc, pm, an, cd, ct, rfl⟩ := fnD_ex F13
  exact ⟨_, _, _, _, F13, (He.glo_ok X G (c.fact 2 11 (l := fa2) (f := (fun K => (He.Fa.glo "step_of").ok K)) rfl rfl)), (all_consQ (Bnd.all fun us ws vs zs l1 l2 r rz => by
      obtain ⟨u0, rfl⟩ := len1 (r.length.symm.trans l1)
      obtain rfl := len0 (rz.length.symm.trans l2)
      cases r with | cons r0 r =>
        cases r
        cases rz
        exact ⟨[u0], rfl, (.cons r0 .nil)⟩) all_nilQ)⟩
theorem D_14 : DefX K mg "edge_limit" s_edge_limit ["first", "second", "edge"] pats_edge_limit := by
  obtain ⟨fd0, F14⟩ : ∃ fd, FunD K "edge_limit" "edge_limit" (defArgs s_edge_limit) (defBody s_edge_limit) (defScope s_edge_limit) [] [] (He.ga K "edge_limit") fd := c.def_ 14 (d := dk14) rfl
  obtain ⟨kV, dc, pm, an, cd, ct, rfl⟩ := fnD_ex F14
  exact ⟨_, _, _, _, F14, (He.glo_ok X G (c.fact 2 12 (l := fa2) (f := (fun K => (He.Fa.glo "edge_limit").ok K)) rfl rfl)), (all_consQ (Bnd.all fun us ws vs zs l1 l2 r rz => by
      obtain ⟨u0, u1, u2, rfl⟩ := len3 (r.length.symm.trans l1)
      obtain rfl := len0 (rz.length.symm.trans l2)
      cases r with | cons r0 r =>
        cases r with | cons r1 r =>
          cases r with | cons r2 r =>
            cases r
            cases rz
            exact ⟨[u0, u1, u2], rfl, (.cons r0 (.cons r1 (.cons r2 .nil)))⟩) all_nilQ)⟩
theorem D_15 : DefX K mg "_limit_between" s__limit_between ["one", "other", "edge"] pats__limit_between := by
  obtain ⟨fd0, F15⟩ : ∃ fd, FunD K "_limit_between" "_limit_between" (defArgs s__limit_between) (defBody s__limit_between) (defScope s__limit_between) [] [] (He.ga K "_limit_between") fd := c.def_ 15 (d := dk15) rfl
  obtain ⟨kV, dc, pm, an, cd, ct, rfl⟩ := fnD_ex F15
  exact ⟨_, _, _, _, F15, (He.glo_ok X G (c.fact 2 13 (l := fa2) (f := (fun K => (He.Fa.glo "_limit_between").ok K)) rfl rfl)), (all_consQ (Bnd.all fun us ws vs zs l1 l2 r rz => by
      obtain ⟨u0, u1, u2, rfl⟩ := len3 (r.length.symm.trans l1)
      obtain rfl := len0 (rz.length.symm.trans l2)
      cases r with | cons r0 r =>
        cases r with | cons r1 r =>
          cases r with | cons r2 r =>
            cases r
            cases rz
            exact ⟨[u0, u1, u2], rfl, (.cons r0 (.cons r1 (.cons r2 .nil)))⟩) all_nilQ)⟩
theorem D_16 : DefX K mg "_limits" s__limits ["blocks", "edge"] pats__limits := by
  obtain ⟨fd0, F16⟩ : ∃ fd, FunD K "_limits" "_limits" (defArgs s__limits) (defBody s__limits) (defScope s__limits) [] [] (He.ga K "_limits") fd := c.def_ 16 (d := dk16) rfl
  obtain ⟨kV, dc, pm, an, cd, ct, rfl⟩ := fnD_ex F16
  exact ⟨_, _, _, _, F16, (He.glo_ok X G (c.fact 2 14 (l := fa2) (f := (fun K => (He.Fa.glo "_limits").ok K)) rfl rfl)), (all_consQ (Bnd.all fun us ws vs zs l1 l2 r rz => by
      obtain ⟨u0, u1, rfl⟩ := len2 (r.length.symm.trans l1)
      obtain rfl := len0 (rz.length.symm.trans l2)
      cases r with | cons r0 r =>
        cases r with | cons r1 r =>
          cases r
          cases rz
          exact ⟨[u0, u1], rfl, (.cons r0 (.cons r1 .nil))⟩) all_nilQ)⟩
theorem D_17 : DefX K mg "transposed" s_transposed ["rows"] pats_transposed := by
  obtain ⟨fd0, F17⟩ : ∃ fd, FunD K "transposed" "transposed" (defArgs s_transposed) (defBody s_transposed) (defScope s_transposed) [] [] (He.ga K "transposed") fd := c.def_ 17 (d := dk17) rfl
  obtain ⟨kV, dc, pm, an, cd, ct, rfl⟩ := fnD_ex F17
  exact ⟨_, _, _, _, F17, (He.glo_ok X G (c.fact 2 15 (l := fa2) (f := (fun K => (He.Fa.glo "transposed").ok K)) rfl rfl)), (all_consQ (Bnd.all fun us ws vs zs l1 l2 r rz => by
      obtain ⟨u0, rfl⟩ := len1 (r.length.symm.trans l1)
      obtain rfl := len0 (rz.length.symm.trans l2)
      cases r with | cons r0 r =>
        cases r
        cases rz
        exact ⟨[u0], rfl, (.cons r0 .nil)⟩) all_nilQ)⟩
theorem D_18 : DefX K mg "transposed" s_transposed_v_b ["rows"] pats_transposed_v_b := by
  obtain ⟨fd0, F18⟩ : ∃ fd, FunD K "transposed" "transposed" (defArgs s_transposed_v_b) (defBody s_transposed_v_b) (defScope s_transposed_v_b) [] [] (He.ga K "transposed") fd := c.def_ 18 (d := dk18) rfl
  obtain ⟨kV, dc, pm, an, cd, ct, rfl⟩ := fnD_ex F18
  exact ⟨_, _, _, _, F18, (He.glo_ok X G (c.fact 2 15 (l := fa2) (f := (fun K => (He.Fa.glo "transposed").ok K)) rfl rfl)), (all_consQ (Bnd.all fun us ws vs zs l1 l2 r rz => by
      obtain ⟨u0, rfl⟩ := len1 (r.length.symm.trans l1)
      obtain rfl := len0 (rz.length.symm.trans l2)
      cases r with | cons r0 r =>
        cases r
        cases rz
        exact ⟨[u0], rfl, (.cons r0 .nil)⟩) all_nilQ)⟩
theorem D_19 : DefX K mg "block_side" s_block_side ["fmt", "plane"] pats_block_side := by
  obtain ⟨fd0, F19⟩ : ∃ fd, FunD K "block_side" "block_side" (defArgs s_block_side) (defBody s_block_side) (defScope s_block_side) [] [] (He.ga K "block_side") fd := c.def_ 19 (d := dk19) rfl
  obtain ⟨kV, dc, pm, an, cd, ct, rfl⟩ := fnD_ex F19
  exact ⟨_, _, _, _, F19, (He.glo_ok X G (c.fact 2 16 (l := fa2) (f := (fun K => (He.Fa.glo "block_side").ok K)) rfl rfl)), (all_consQ (Bnd.all fun us ws vs zs l1 l2 r rz => by
      obtain ⟨u0, u1, rfl⟩ := len2 (r.length.symm.trans l1)
      obtain rfl := len0 (rz.length.symm.trans l2)
      cases r with | cons r0 r =>
        cases r with | cons r1 r =>
          cases r
          cases rz
          exact ⟨[u0, u1], rfl, (.cons r0 (.cons r1 .nil))⟩) all_nilQ)⟩
theorem D_20 : DefX K mg "clip" s_clip ["value", "low", "high"] pats_clip := by
  obtain ⟨fd0, F20⟩ : ∃ fd, FunD K "clip" "clip" (defArgs s_clip) (defBody s_clip) (defScope s_clip) [] [] (He.ga K "clip") fd := c.def_ 20 (d := dk20) rfl
  obtain ⟨kV, dc, pm, an, cd, ct, rfl⟩ := fnD_ex F20
  exact ⟨_, _, _, _, F20, (He.glo_ok X G (c.fact 2 17 (l := fa2) (f := (fun K => (He.Fa.glo "clip").ok K)) rfl rfl)), (all_consQ (Bnd.all fun us ws vs zs l1 l2 r rz => by
      obtain ⟨u0, u1, u2, rfl⟩ := len3 (r.length.symm.trans l1)
      obtain rfl := len0 (rz.length.symm.trans l2)
      cases r with | cons r0 r =>
        cases r with | cons r1 r =>
          cases r with | cons r2 r =>
            cases r
            cases rz
            exact ⟨[u0, u1, u2], rfl, (.cons r0 (.cons r1 (.cons r2 .nil)))⟩) all_nilQ)⟩
theorem D_21 : DefX K mg "smooth_edge" s_smooth_edge ["a1", "a0", "b0", "b1", "limit", "top"] pats_smooth_edge := by
  obtain ⟨fd0, F21⟩ : ∃ fd, FunD K "smooth_edge" "smooth_edge" (defArgs s_smooth_edge) (defBody s_smooth_edge) (defScope s_smooth_edge) [] [] (He.ga K "smooth_edge") fd := c.def_ 21 (d := dk21) rfl
  obtain ⟨kV, dc, pm, an, cd, ct, rfl⟩ := fnD_ex F21
  exact ⟨_, _, _, _, F21, (He.glo_ok X G (c.fact 2 18 (l := fa2) (f := (fun K => (He.Fa.glo "smooth_edge").ok K)) rfl rfl)), (all_consQ (Bnd.all fun us ws vs zs l1 l2 r rz => by
      obtain ⟨u0, u1, u2, u3, rfl⟩ := len4 (r.length.symm.trans l1)
      obtain ⟨w0, w1, rfl⟩ := len2 (rz.length.symm.trans l2)
      cases r with | cons r0 r =>
        cases r with | cons r1 r =>
          cases r with | cons r2 r =>
            cases r with | cons r3 r =>
              cases r
              cases rz with | cons q0 rz =>
                cases rz with | cons q1 rz =>
                  cases rz
                  exact ⟨[u0, u1, u2, u3, w0, w1], rfl, (.cons r0 (.cons r1 (.cons r2 (.cons r3 (.cons q0 (.cons q1 .nil))))))⟩) all_nilQ)⟩
theorem D_22 : DefX K mg "_smooth_row" s__smooth_row ["row", "limits", "side", "top"] pats__smooth_row := by
  obtain ⟨fd0, F22⟩ : ∃ fd, FunD K "_smooth_row" "_smooth_row" (defArgs s__smooth_row) (defBody s__smooth_row) (defScope s__smooth_row) [] [] (He.ga K "_smooth_row") fd := c.def_ 22 (d := dk22) rfl
  obtain ⟨kV, dc, pm, an, cd, ct, rfl⟩ := fnD_ex F22
  exact ⟨_, _, _, _, F22, (He.glo_ok X G (c.fact 2 19 (l := fa2) (f := (fun K => (He.Fa.glo "_smooth_row").ok K)) rfl rfl)), (all_consQ (Bnd.all fun us ws vs zs l1 l2 r rz => by
      obtain ⟨u0, u1, u2, u3, rfl⟩ := len4 (r.length.symm.trans l1)
      obtain rfl := len0 (rz.length.symm.trans l2)
      cases r with | cons r0 r =>
        cases r with | cons r1 r =>
          cases r with | cons r2 r =>
            cases r with | cons r3 r =>
              cases r
              cases rz
              exact ⟨[u0, u1, u2, u3], rfl, (.cons r0 (.cons r1 (.cons r2 (.cons r3 .nil))))⟩) all_nilQ)⟩
theorem D_23 : DefX K mg "_smooth_rows" s__smooth_rows ["plane", "limits", "side", "top"] pats__smooth_rows := by
  obtain ⟨fd0, F23⟩ : ∃ fd, FunD K "_smooth_rows" "_smooth_rows" (defArgs s__smooth_rows) (defBody s__smooth_rows) (defScope s__smooth_rows) [] [] (He.ga K "_smooth_rows") fd := c.def_ 23 (d := dk23) rfl
  obtain ⟨kV, dc, pm, an, cd, ct, rfl⟩ := fnD_ex F23
  exact ⟨_, _, _, _, F23, (He.glo_ok X G (c.fact 2 20 (l := fa2) (f := (fun K => (He.Fa.glo "_smooth_rows").ok K)) rfl rfl)), (all_consQ (Bnd.all fun us ws vs zs l1 l2 r rz => by
      obtain ⟨u0, u1, u2, u3, rfl⟩ := len4 (r.length.symm.trans l1)
      obtain rfl := len0 (rz.length.symm.trans l2)
      cases r with | cons r0 r =>
        cases r with | cons r1 r =>
          cases r with | cons r2 r =>
            cases r with | cons r3 r =>
              cases r
              cases rz
              exact ⟨[u0, u1, u2, u3], rfl, (.cons r0 (.cons r1 (.cons r2 (.cons r3 .nil))))⟩) all_nilQ)⟩
theorem D_24 : PropX K (He.ga K "Format") "Format.top" "top" s_Format_top ["self"] pats_Format_top := by
  obtain ⟨fd0, F24⟩ : ∃ fd, FunD K "top" "Format.top" (defArgs s_Format_top) (defBody s_Format_top) (defScope s_Format_top) [] [] (prA "Format" "top" K) fd := c.def_ 24 (d := dk24) rfl
  obtain ⟨kV, dc, pm, an, cd, ct, rfl⟩ := fnD_ex F24
  obtain ⟨e1, e2, e3, rs, e4⟩ := prpB_ok (c.fact 2 21 (l := fa2) (f := (prpB "Format" "top")) rfl rfl)
  exact ⟨_, _, _, _, _, F24, ⟨e1, e2, e3, _, e4⟩, FunD.bindsN F24 (fun _ _ _ _ _ _ us h => by obtain ⟨u0, rfl⟩ := len1 h; rfl)⟩
theorem D_25 : DefX K mg "deblock" s_deblock ["fmt", "header", "planes", "blocks"] pats_deblock := by
  obtain ⟨fd0, F25⟩ : ∃ fd, FunD K "deblock" "deblock" (defArgs s_deblock) (defBody s_deblock) (defScope s_deblock) [] [] (He.ga K "deblock") fd := c.def_ 25 (d := dk25) rfl
  obtain ⟨kV, dc, pm, an, cd, ct, rfl⟩ := fnD_ex F25
  exact ⟨_, _, _, _, F25, (He.glo_ok X G (c.fact 2 22 (l := fa2) (f := (fun K => (He.Fa.glo "deblock").ok K)) rfl rfl)), (all_consQ (Bnd.all fun us ws vs zs l1 l2 r rz => by
      obtain ⟨u0, u1, u2, u3, rfl⟩ := len4 (r.length.symm.trans l1)
      obtain rfl := len0 (rz.length.symm.trans l2)
      cases r with | cons r0 r =>
        cases r with | cons r1 r =>
          cases r with | cons r2 r =>
            cases r with | cons r3 r =>
              cases r
              cases rz
              exact ⟨[u0, u1, u2, u3], rfl, (.cons r0 (.cons r1 (.cons r2 (.cons r3 .nil))))⟩) all_nilQ)⟩
theorem D_26 : DefX K mg "_law_cell" s__law_cell ["script", "k"] pats__law_cell := by
  obtain ⟨fd0, F26⟩ : ∃ fd, FunD K "_law_cell" "_law_cell" (defArgs s__law_cell) (defBody s__law_cell) (defScope s__law_cell) [] [] (He.ga K "_law_cell") fd := c.def_ 26 (d := dk26) rfl
  obtain ⟨kV, dc, pm, an, cd, ct, rfl⟩ := fnD_ex F26
  exact ⟨_, _, _, _, F26, (He.glo_ok X G (c.fact 2 23 (l := fa2) (f := (fun K => (He.Fa.glo "_law_cell").ok K)) rfl rfl)), (all_consQ (Bnd.all fun us ws vs zs l1 l2 r rz => by
      obtain ⟨u0, u1, rfl⟩ := len2 (r.length.symm.trans l1)
      obtain rfl := len0 (rz.length.symm.trans l2)
      cases r with | cons r0 r =>
        cases r with | cons r1 r =>
          cases r
          cases rz
          exact ⟨[u0, u1], rfl, (.cons r0 (.cons r1 .nil))⟩) all_nilQ)⟩
theorem D_27 : DefX K mg "_law_limit" s__law_limit ["first", "second", "edge"] pats__law_limit := by
  obtain ⟨fd0, F27⟩ : ∃ fd, FunD K "_law_limit" "_law_limit" (defArgs s__law_limit) (defBody s__law_limit) (defScope s__law_limit) [] [] (He.ga K "_law_limit") fd := c.def_ 27 (d := dk27) rfl
  obtain ⟨kV, dc, pm, an, cd, ct, rfl⟩ := fnD_ex F27
  exact ⟨_, _, _, _, F27, (He.glo_ok X G (c.fact 2 24 (l := fa2) (f := (fun K => (He.Fa.glo "_law_limit").ok K)) rfl rfl)), (all_consQ (Bnd.all fun us ws vs zs l1 l2 r rz => by
      obtain ⟨u0, u1, u2, rfl⟩ := len3 (r.length.symm.trans l1)
      obtain rfl := len0 (rz.length.symm.trans l2)
      cases r with | cons r0 r =>
        cases r with | cons r1 r =>
          cases r with | cons r2 r =>
            cases r
            cases rz
            exact ⟨[u0, u1, u2], rfl, (.cons r0 (.cons r1 (.cons r2 .nil)))⟩) all_nilQ)⟩
theorem D_28 : DefX K mg "_law_pair" s__law_pair ["a1", "a0", "b0", "b1", "limit", "top"] pats__law_pair := by
  obtain ⟨fd0, F28⟩ : ∃ fd, FunD K "_law_pair" "_law_pair" (defArgs s__law_pair) (defBody s__law_pair) (defScope s__law_pair) [] [] (He.ga K "_law_pair") fd := c.def_ 28 (d := dk28) rfl
  obtain ⟨kV, dc, pm, an, cd, ct, rfl⟩ := fnD_ex F28
  exact ⟨_, _, _, _, F28, (He.glo_ok X G (c.fact 2 25 (l := fa2) (f := (fun K => (He.Fa.glo "_law_pair").ok K)) rfl rfl)), (all_consQ (Bnd.all fun us ws vs zs l1 l2 r rz => by
      obtain ⟨u0, u1, u2, u3, u4, u5, rfl⟩ := len6 (r.length.symm.trans l1)
      obtain rfl := len0 (rz.length.symm.trans l2)
      cases r with | cons r0 r =>
        cases r with | cons r1 r =>
          cases r with | cons r2 r =>
            cases r with | cons r3 r =>
              cases r with | cons r4 r =>
                cases r with | cons r5 r =>
                  cases r
                  cases rz
                  exact ⟨[u0, u1, u2, u3, u4, u5], rfl, (.cons r0 (.cons r1 (.cons r2 (.cons r3 (.cons r4 (.cons r5 .nil))))))⟩) all_nilQ)⟩
theorem D_29 : DefX K mg "_law_columns" s__law_columns ["rows", "blocks", "size", "edge", "top"] pats__law_columns := by
  obtain ⟨fd0, F29⟩ : ∃ fd, FunD K "_law_columns" "_law_columns" (defArgs s__law_columns) (defBody s__law_columns) (defScope s__law_columns) [] [] (He.ga K "_law_columns") fd := c.def_ 29 (d := dk29) rfl
  obtain ⟨kV, dc, pm, an, cd, ct, rfl⟩ := fnD_ex F29
  exact ⟨_, _, _, _, F29, (He.glo_ok X G (c.fact 2 26 (l := fa2) (f := (fun K => (He.Fa.glo "_law_columns").ok K)) rfl rfl)), (all_consQ (Bnd.all fun us ws vs zs l1 l2 r rz => by
      obtain ⟨u0, u1, u2, u3, u4, rfl⟩ := len5 (r.length.symm.trans l1)
      obtain rfl := len0 (rz.length.symm.trans l2)
      cases r with | cons r0 r =>
        cases r with | cons r1 r =>
          cases r with | cons r2 r =>
            cases r with | cons r3 r =>
              cases r with | cons r4 r =>
                cases r
                cases rz
                exact ⟨[u0, u1, u2, u3, u4], rfl, (.cons r0 (.cons r1 (.cons r2 (.cons r3 (.cons r4 .nil)))))⟩) all_nilQ)⟩
theorem D_30 : DefX K mg "_law_turned" s__law_turned ["rows"] pats__law_turned := by
  obtain ⟨fd0, F30⟩ : ∃ fd, FunD K "_law_turned" "_law_turned" (defArgs s__law_turned) (defBody s__law_turned) (defScope s__law_turned) [] [] (He.ga K "_law_turned") fd := c.def_ 30 (d := dk30) rfl
  obtain ⟨kV, dc, pm, an, cd, ct, rfl⟩ := fnD_ex F30
  exact ⟨_, _, _, _, F30, (He.glo_ok X G (c.fact 2 27 (l := fa2) (f := (fun K => (He.Fa.glo "_law_turned").ok K)) rfl rfl)), (all_consQ (Bnd.all fun us ws vs zs l1 l2 r rz => by
      obtain ⟨u0, rfl⟩ := len1 (r.length.symm.trans l1)
      obtain rfl := len0 (rz.length.symm.trans l2)
      cases r with | cons r0 r =>
        cases r
        cases rz
        exact ⟨[u0], rfl, (.cons r0 .nil)⟩) all_nilQ)⟩
theorem D_31 : DefX K mg "_law_turned" s__law_turned_v_b ["rows"] pats__law_turned_v_b := by
  obtain ⟨fd0, F31⟩ : ∃ fd, FunD K "_law_turned" "_law_turned" (defArgs s__law_turned_v_b) (defBody s__law_turned_v_b) (defScope s__law_turned_v_b) [] [] (He.ga K "_law_turned") fd := c.def_ 31 (d := dk31) rfl
  obtain ⟨kV, dc, pm, an, cd, ct, rfl⟩ := fnD_ex F31
  exact ⟨_, _, _, _, F31, (He.glo_ok X G (c.fact 2 27 (l := fa2) (f := (fun K => (He.Fa.glo "_law_turned").ok K)) rfl rfl)), (all_consQ (Bnd.all fun us ws vs zs l1 l2 r rz => by
      obtain ⟨u0, rfl⟩ := len1 (r.length.symm.trans l1)
      obtain rfl := len0 (rz.length.symm.trans l2)
      cases r with | cons r0 r =>
        cases r
        cases rz
        exact ⟨[u0], rfl, (.cons r0 .nil)⟩) all_nilQ)⟩
theorem R__law_digits (base : Heap) : CalX P w K mg base 1 "_law_digits" (sp__law_digits K (adK K)) pats__law_digits := ok__law_digits (AD := adK K) (D_0 X G c) (T_ X G c) 
theorem R_Format___init__ (base : Heap) : MakX P w K mg base 1 "Format" (adK K).c_Format (sp_Format___init__ K (adK K)) pats_Format___init__ := ok_Format___init__ (AD := adK K) (D_1 X G c) (T_ X G c) 
theorem R__require (base : Heap) : CalX P w K mg base 1 "_require" (sp__require K (adK K)) pats__require := ok__require (AD := adK K) (D_2 X G c) (T_ X G c) 
theorem R_Settings___init__ (base : Heap) : MakX P w K mg base 2 "Settings" (adK K).c_Settings (sp_Settings___init__ K (adK K)) pats_Settings___init__ := ok_Settings___init__ (AD := adK K) (D_3 X G c) (T_ X G c) (R__require X G c base)
theorem R__check_numbers (base : Heap) : CalX P w K mg base 2 "_check_numbers" (sp__check_numbers K (adK K)) pats__check_numbers := ok__check_numbers (AD := adK K) (D_4 X G c) (T_ X G c) (R__require X G c base)
theorem R__check_slots (base : Heap) : CalX P w K mg base 2 "_check_slots" (sp__check_slots K (adK K)) pats__check_slots := ok__check_slots (AD := adK K) (D_5 X G c) (T_ X G c) (R__require X G c base)
theorem R_PictureHeader___init__ (base : Heap) : MakX P w K mg base 3 "PictureHeader" (adK K).c_PictureHeader (sp_PictureHeader___init__ K (adK K)) (pats_PictureHeader___init__ (adK K)) := ok_PictureHeader___init__ (AD := adK K) (D_6 X G c) (T_ X G c) (R__check_numbers X G c base) (R__check_slots X G c base)
theorem R_Format_planes (base : Heap) : PropY P w K mg base 1 (adK K).c_Format "planes" (sp_Format_planes K (adK K)) pats_Format_planes := ok_Format_planes (AD := adK K) (D_7 X G c) (T_ X G c) 
theorem R_Format_blocks (base : Heap) : MetX P w K mg base 1 (adK K).c_Format "blocks" (sp_Format_blocks K (adK K)) pats_Format_blocks := ok_Format_blocks (AD := adK K) (D_8 X G c) (T_ X G c) 
theorem R_Format__plane_size (base : Heap) : MetX P w K mg base 3 (adK K).c_Format "_plane_size" (sp_Format__plane_size K (adK K)) pats_Format__plane_size := ok_Format__plane_size (AD := adK K) (D_9 X G c) (T_ X G c) (R_Format_planes X G c base)
theorem R_Format_coded_size (base : Heap) : MetX P w K mg base 4 (adK K).c_Format "coded_size" (sp_Format_coded_size K (adK K)) pats_Format_coded_size := ok_Format_coded_size (AD := adK K) (D_10 X G c) (T_ X G c) (R_Format_blocks X G c base) (R_Format__plane_size X G c base)
theorem R__law_planes (base : Heap) : CalX P w K mg base 5 "_law_planes" (sp__law_planes K (adK K)) pats__law_planes := ok__law_planes (AD := adK K) (D_11 X G c) (T_ X G c) (R_Format_coded_size X G c base) (R__law_digits X G c base) (R_Format_planes X G c base)
theorem R_copy_planes (base : Heap) : CalX P w K mg base 1 "copy_planes" (sp_copy_planes K (adK K)) pats_copy_planes := ok_copy_planes (AD := adK K) (D_12 X G c) (T_ X G c) 
theorem R_step_of (base : Heap) : CalX P w K mg base 1 "step_of" (sp_step_of K (adK K)) pats_step_of := ok_step_of (AD := adK K) (D_13 X G c) (T_ X G c) 
theorem R_edge_limit (base : Heap) : CalX P w K mg base 2 "edge_limit" (sp_edge_limit K (adK K)) pats_edge_limit := ok_edge_limit (AD := adK K) (D_14 X G c) (T_ X G c) (R_step_of X G c base)
theorem R__limit_between (base : Heap) : CalX P w K mg base 3 "_limit_between" (sp__limit_between K (adK K)) pats__limit_between := ok__limit_between (AD := adK K) (D_15 X G c) (T_ X G c) (R_edge_limit X G c base)
theorem R__limits (base : Heap) : CalX P w K mg base 4 "_limits" (sp__limits K (adK K)) pats__limits := ok__limits (AD := adK K) (D_16 X G c) (T_ X G c) (R__limit_between X G c base)
theorem R_transposed (base : Heap) : CalX P w K mg base 1 "transposed" (sp_transposed K (adK K)) pats_transposed := ok_transposed (AD := adK K) (D_17 X G c) (T_ X G c) 
theorem R_transposed_v_b (base : Heap) : CalX P w K mg base 1 "transposed" (sp_transposed_v_b K (adK K)) pats_transposed_v_b := ok_transposed_v_b (AD := adK K) (D_18 X G c) (T_ X G c) 
theorem R_block_side (base : Heap) : CalX P w K mg base 1 "block_side" (sp_block_side K (adK K)) pats_block_side := ok_block_side (AD := adK K) (D_19 X G c) (T_ X G c) 
theorem R_clip (base : Heap) : CalX P w K mg base 1 "clip" (sp_clip K (adK K)) pats_clip := ok_clip (AD := adK K) (D_20 X G c) (T_ X G c) 
theorem R_smooth_edge (base : Heap) : CalX P w K mg base 2 "smooth_edge" (sp_smooth_edge K (adK K)) pats_smooth_edge := ok_smooth_edge (AD := adK K) (D_21 X G c) (T_ X G c) (R_clip X G c base)
theorem R__smooth_row (base : Heap) : CalX P w K mg base 3 "_smooth_row" (sp__smooth_row K (adK K)) pats__smooth_row := ok__smooth_row (AD := adK K) (D_22 X G c) (T_ X G c) (R_smooth_edge X G c base)
theorem R__smooth_rows (base : Heap) : CalX P w K mg base 4 "_smooth_rows" (sp__smooth_rows K (adK K)) pats__smooth_rows := ok__smooth_rows (AD := adK K) (D_23 X G c) (T_ X G c) (R__smooth_row X G c base)
theorem R_Format_top (base : Heap) : PropY P w K mg base 1 (adK K).c_Format "top" (sp_Format_top K (adK K)) pats_Format_top := ok_Format_top (AD := adK K) (D_24 X G c) (T_ X G c) 
theorem R_deblock (base : Heap) : CalX P w K mg base 5 "deblock" (sp_deblock K (adK K)) pats_deblock := ok_deblock (AD := adK K) (D_25 X G c) (T_ X G c) (R__limits X G c base) (R_transposed_v_b X G c base) (R_block_side X G c base) (R__smooth_rows X G c base) (R_Format_top X G c base) (R_transposed X G c base)
theorem R__law_cell (base : Heap) : CalX P w K mg base 1 "_law_cell" (sp__law_cell K (adK K)) pats__law_cell := ok__law_cell (AD := adK K) (D_26 X G c) (T_ X G c) 
theorem R__law_limit (base : Heap) : CalX P w K mg base 1 "_law_limit" (sp__law_limit K (adK K)) pats__law_limit := ok__law_limit (AD := adK K) (D_27 X G c) (T_ X G c) 
theorem R__law_pair (base : Heap) : CalX P w K mg base 1 "_law_pair" (sp__law_pair K (adK K)) pats__law_pair := ok__law_pair (AD := adK K) (D_28 X G c) (T_ X G c) 
theorem R__law_columns (base : Heap) : CalX P w K mg base 2 "_law_columns" (sp__law_columns K (adK K)) pats__law_columns := ok__law_columns (AD := adK K) (D_29 X G c) (T_ X G c) (R__law_limit X G c base) (R__law_pair X G c base)
theorem R__law_turned (base : Heap) : CalX P w K mg base 1 "_law_turned" (sp__law_turned K (adK K)) pats__law_turned := ok__law_turned (AD := adK K) (D_30 X G c) (T_ X G c) 
theorem R__law_turned_v_b (base : Heap) : CalX P w K mg base 1 "_law_turned" (sp__law_turned_v_b K (adK K)) pats__law_turned_v_b := ok__law_turned_v_b (AD := adK K) (D_31 X G c) (T_ X G c) 
theorem law_fact {fa : Addr} (hfa : mg "law" = some (.ref fa)) :
    ∃ fd : FuncData, (∀ (s : Shared) (v : Value), BindsTo s fd ⟨[v], []⟩ [("script", v)]) ∧ ∀ base : Heap, K.In base → base.Ns mainGlobals mg → FnG P w K mg base CX0 6 fa fd ["script"] (spL K) := by
  have e := hfa.symm.trans (He.glo_ok X G (c.fact 2 28 (l := fa2) (f := (fun K => (He.Fa.glo "law").ok K)) rfl rfl))
  cases e
  obtain ⟨fd0, F32⟩ : ∃ fd, FunD K "law" "law" (defArgs s_law) (defBody s_law) (defScope s_law) [] [] (He.ga K "law") fd := c.def_ 32 (d := dk32) rfl
  have b := FunD.bindsA (ps := ["script"]) F32 fun _ _ _ _ _ _ us hl => match us, hl with | [_], _ => rfl
  refine ⟨fd0, fun s v => b s [v] rfl, fun base _ _ => (ok_law (AD := adK K) F32 (T_ X G c) (R__law_digits X G c base) (R__law_cell X G c base) (R_Format___init__ X G c base) (R_Settings___init__ X G c base) (R_PictureHeader___init__ X G c base) (R_Format_blocks X G c base) (R__law_planes X G c base) (R_Format_top X G c base) (R_copy_planes X G c base) (R__law_columns X G c base) (R__law_turned X G c base) (R__law_turned_v_b X G c base) (R_Format_planes X G c base) (R_deblock X G c base)).imp ?_⟩
  rintro vs H Q E ⟨a, xs, rfl, hs, hl, q⟩
  exact ⟨a, xs, rfl, hs, by rw [law_true xs hl]; exact cW_mk rfl, q⟩
end
end Vx
open PySem PySem.W PySem.Calls PyProof.Rows
set_option maxRecDepth 100000 in
set_option maxHeartbeats 0 in
theorem PySem.Challenge.cw_thaumatrope_k57_whole_pictures_deblocked_holds : PySem.Challenge.rw_thaumatrope_k57_whole_pictures_deblocked.Holds := by
  w_on; o_law
  refine HandSHeadRun.head_any (r := (PySem.W.OpenLaw.row PySem.Challenge.rw_thaumatrope_k57_whole_pictures_deblocked)) (q := view (PySem.W.OpenLaw.row PySem.Challenge.rw_thaumatrope_k57_whole_pictures_deblocked).prog [46]) (H := Vx.hkK) (ob := Vx.obK) (M := 20000) (loose := Vx.nms) (d := HandSHeadRun.topDef (PySem.W.OpenLaw.row PySem.Challenge.rw_thaumatrope_k57_whole_pictures_deblocked).prog 46) (kwd := []) Vx.obK_eq
    (by kernel_rfl) (fun s => by kernel_rfl) Vx.runK (by kernel_rfl) (by kernel_rfl) (by kernel_rfl) (by rfl) (by first | assumption | decide +kernel) (by decide +kernel) ⟨rfl, rfl, rfl, rfl, rfl, by decide +kernel⟩ ?hw ?hc
  case hw => w_witness2
  case hc =>
    refine Vx.walkK (l := PySem.Challenge.rw_thaumatrope_k57_whole_pictures_deblocked) (n := 63) (k := 6) (x := "script") rfl (by decide) (by kernel_rfl) ⟨rfl, by decide, by decide⟩ ?F
    intro w mg fa h Y G hmg0
    obtain ⟨K, KX, c⟩ := Y
    have hmg : mg ("law" : PySem.Str) = some (.ref fa) := by
      have e : (HandSHeadRun.topDef (PySem.W.OpenLaw.row PySem.Challenge.rw_thaumatrope_k57_whole_pictures_deblocked).prog 46).name = ("law" : PySem.Str) := by kernel_rfl
      rw [← e]
      exact hmg0
    obtain ⟨fd, hb, hF⟩ := Vx.law_fact (P := (PySem.W.OpenLaw.row PySem.Challenge.rw_thaumatrope_k57_whole_pictures_deblocked).prog) KX G c hmg
    exact ⟨K, fd, KX, hb, hF⟩
