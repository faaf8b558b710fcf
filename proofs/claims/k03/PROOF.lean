import PyProof.Rows.All
import Wide.All
import OpenK.AllK
import Wide.FinOn
import HandS.ForMost
import HandS.Codes
import HandS.Steps
import HandS.IsInst
import HandS.Property
import HandS.Wide
import HandS.WideBits
import HandS.Exc
import HandS.Defaults
import HandS.ExcOwn
import HandS.TryOnly
import HandS.WordsExc
import HandS.ExcIs
import HandS.MakeKwOnly
import HandS.RaiseMore
import HandS.Style
import HandS.Zip
import HandS.Iter
import HandS.Walk
import HandS.More
import HandS.SortInts
import HandS.Head0
import HandS.Head1
import HandS.Head2
import HandS.HeadEnd
import HandS.HeadHook1
import HandS.HeadHook2
import HandS.HeadHook3
import HandS.HeadNt
import KE.KStateDown
import PySem.Challenge.RW_thaumatrope_k03_frames_padded_and_croppe
set_option Elab.async false
set_option linter.all false
set_option maxRecDepth 100000
set_option maxHeartbeats 8000000
namespace Vx
open PySem PySem.Spec PyProof.Rows L2

/-! ### heaps -/
def SameX (m : Addr) (H H' : Hp) : Prop := ∀ b o, H b = some o → b ≠ m → H' b = some o
theorem gen_new {H H' : Hp} {p : Addr} {o : HO} (n : H p = none) (h : upd H p o = H') : Same H H' ∧ H' p = some o := by
  subst h
  exact ⟨fun b u e => by rw [upd_ne (ne_of_none e n)]; exact e, upd_same⟩
theorem gen_mut {H H' : Hp} {m : Addr} {o : HO} (h : upd H m o = H') : SameX m H H' ∧ H' m = some o := by
  subst h
  exact ⟨fun b u e n => by rw [upd_ne n]; exact e, upd_same⟩
theorem same_mut {H0 H H' : Hp} {m : Addr} (B : Same H0 H) (x : SameX m H H') (f : H0 m = none) : Same H0 H' :=
  fun b o e => x b o (B b o e) (ne_of_none e f)
theorem map_get {xs : List Int} {i : Nat} {x : V} (h : (xs.map V.int)[i]? = some x) : ∃ o, xs[i]? = some o ∧ x = .int o := by
  rw [List.getElem?_map] at h
  cases e : xs[i]? with
  | none => rw [e] at h; cases h
  | some z => rw [e] at h; exact ⟨z, rfl, (Option.some.inj h).symm⟩
theorem get_len {α : Type} {xs : List α} {i : Nat} {x : α} (h : xs[i]? = some x) : i < xs.length := (List.getElem?_eq_some_iff.mp h).1
theorem eq_int {Q : VK} {H : Hp} {a b : Int} (h : Q (.int a) H) (e : a = b) : Q (.int b) H := e ▸ h
theorem eq_bl {Q : VK} {H : Hp} {a b : Bool} (h : Q (.bl a) H) (e : a = b) : Q (.bl b) H := e ▸ h
theorem small {n : Nat} (h : n ≤ 1000000) : n < sizeLine := Nat.lt_of_le_of_lt h (by decide)
theorem smallE {n : Nat} (h : n ≤ 1000000) : n ≤ sizeLine := Nat.le_of_lt (small h)
theorem snoc_int {xs : List Int} {y : Int} {H : Hp} {p : Addr} (h : H p = some (.lst (xs.map V.int ++ [V.int y]))) : H p = some (.lst ((xs ++ [y]).map V.int)) := by
  rw [List.map_append]; exact h
theorem cat_int {xs ys : List Int} {H : Hp} {p : Addr} (h : H p = some (.lst (xs.map V.int ++ ys.map V.int))) : H p = some (.lst ((xs ++ ys).map V.int)) := by
  rw [List.map_append]; exact h
theorem cast_lst {xs ys : List Int} {H : Hp} {p : Addr} (h : H p = some (.lst (xs.map V.int))) (e : xs = ys) : H p = some (.lst (ys.map V.int)) := e ▸ h

/-! ### tests -/
theorem dT {p : Prop} [Decidable p] (h : decide p = true) : p := of_decide_eq_true h
theorem dF {p : Prop} [Decidable p] (h : ¬ decide p = true) : ¬ p := fun x => h (decide_eq_true x)
theorem iteD {p A B : Prop} [Decidable p] (h1 : p → A) (h2 : ¬ p → B) : if decide p = true then A else B := by
  by_cases h : p
  · rw [if_pos (decide_eq_true h)]; exact h1 h
  · rw [if_neg (fun x => h (of_decide_eq_true x))]; exact h2 h
theorem iteN {p A B : Prop} [Decidable p] (h1 : ¬ p → A) (h2 : p → B) : if (!decide p) = true then A else B := by
  by_cases h : p
  · rw [decide_eq_true h]; exact iteF (h2 h)
  · rw [decide_eq_false h]; exact iteT (h1 h)
theorem iteB {b : Bool} {A B : Prop} (h1 : b = true → A) (h2 : b = false → B) : if b = true then A else B := by
  cases b with
  | true => exact iteT (h1 rfl)
  | false => exact iteF (h2 rfl)
theorem iteBN {b : Bool} {A B : Prop} (h1 : b = false → A) (h2 : b = true → B) : if (!b) = true then A else B := by
  cases b with
  | true => exact iteF (h2 rfl)
  | false => exact iteT (h1 rfl)
theorem iteDT {p A B : Prop} [Decidable p] (h : p) (k : A) : if decide p = true then A else B := by
  rw [if_pos (decide_eq_true h)]; exact k
theorem iteDF {p A B : Prop} [Decidable p] (h : ¬ p) (k : B) : if decide p = true then A else B := by
  rw [if_neg (fun x => h (of_decide_eq_true x))]; exact k
theorem iteNT {p A B : Prop} [Decidable p] (h : ¬ p) (k : A) : if (!decide p) = true then A else B := iteN (fun _ => k) (fun x => (h x).elim)
theorem iteNF {p A B : Prop} [Decidable p] (h : p) (k : B) : if (!decide p) = true then A else B := iteN (fun x => (x h).elim) (fun _ => k)

/-! ### equality of lists of ints -/
theorem eqvAll_ints : ∀ xs ys : List Int, PyData.eqvAll (xs.map PyData.int) (ys.map PyData.int) = decide (xs = ys)
  | [], [] => by simp [PyData.eqvAll]
  | [], y :: ys => by simp [PyData.eqvAll]
  | x :: xs, [] => by simp [PyData.eqvAll]
  | x :: xs, y :: ys => by
    have ih := eqvAll_ints xs ys
    simp only [List.map_cons, PyData.eqvAll, PyData.eqv, ih]
    by_cases h : x = y <;> by_cases h2 : xs = ys <;> simp [h, h2]
end Vx

namespace Vx
open PySem PySem.Spec PyProof.Rows L2
section
variable {X : Cx}
def rEqLi (K : PySem.W.Frag) : R2 := fun x y H Q => ∃ (a b : Addr) (xs ys : List Int), x = .ref a ∧ y = .ref b ∧ SqL K H a (xs.map V.int) ∧ SqL K H b (ys.map V.int) ∧ Q (.bl (decide (xs = ys))) H
def rNeLi (K : PySem.W.Frag) : R2 := fun x y H Q => ∃ (a b : Addr) (xs ys : List Int), x = .ref a ∧ y = .ref b ∧ SqL K H a (xs.map V.int) ∧ SqL K H b (ys.map V.int) ∧ Q (.bl (!decide (xs = ys))) H
theorem dpAll_ints {K : PySem.W.Frag} {H : Hp} : ∀ xs : List Int, DpAll K H (xs.map V.int) (xs.map PyData.int)
  | [] => .nil
  | x :: xs => .cons (.int x) (dpAll_ints xs)
theorem dp_ints {K : PySem.W.Frag} {H : Hp} {a : Addr} {xs : List Int} (h : SqL K H a (xs.map V.int)) : Dp K H (.ref a) (.list (xs.map PyData.int)) := .lst h (dpAll_ints xs)
theorem canLay_ints : ∀ xs : List Int, PyData.canLayAll0 (xs.map PyData.int) = true
  | [] => by simp [PyData.canLayAll0]
  | x :: xs => by simp [PyData.canLayAll0, PyData.canLay0, canLay_ints xs]
theorem depth_ints : ∀ xs : List Int, PyData.depthAll (xs.map PyData.int) = 0
  | [] => by simp [PyData.depthAll]
  | x :: xs => by simp [PyData.depthAll, PyData.depth, depth_ints xs]
theorem shaped_ints (xs : List Int) : SeqAt.shaped (.list (xs.map PyData.int)) = true := by
  unfold SeqAt.shaped
  simp [PyData.canLay0, canLay_ints, PyData.depth, depth_ints]
theorem eqv_ints (xs ys : List Int) : PyData.eqv (.list (xs.map PyData.int)) (.list (ys.map PyData.int)) = decide (xs = ys) := by
  simp only [PyData.eqv]
  exact eqvAll_ints xs ys
theorem op_eqLi (hu : X.A.units + 64 < cLine) : OpR X (compareOp .Eq) (rEqLi X.K) := by
  intro pins s σ H x y v u Q I rx ry h
  obtain ⟨a, b, xs, ys, rfl, rfl, h1, h2, q⟩ := h
  exact op_eqD hu pins s σ H _ _ v u Q I rx ry ⟨_, _, dp_ints h1, dp_ints h2, shaped_ints xs, shaped_ints ys, by rw [eqv_ints]; exact q⟩
theorem op_neLi (hu : X.A.units + 64 < cLine) : OpR X (compareOp .NotEq) (rNeLi X.K) := by
  intro pins s σ H x y v u Q I rx ry h
  obtain ⟨a, b, xs, ys, rfl, rfl, h1, h2, q⟩ := h
  exact op_neD hu pins s σ H _ _ v u Q I rx ry ⟨_, _, dp_ints h1, dp_ints h2, shaped_ints xs, shaped_ints ys, by rw [eqv_ints]; exact q⟩

/-! ### items, slices, repetition, comprehensions of ints -/
def itI (xs : List Int) (i : Int) : Int := (atI xs i).getD 0
theorem atI_int {xs : List Int} {i : Int} (h : -(xs.length : Int) ≤ i ∧ i < xs.length) : atI (xs.map V.int) i = some (.int (itI xs i)) := by
  unfold itI atI
  rw [List.length_map]
  have hk : ∃ j, ixN xs.length i = some j ∧ j < xs.length := by
    unfold ixN
    by_cases h0 : 0 ≤ i
    · refine ⟨i.toNat, ?_, by omega⟩
      rw [if_pos h0, if_pos h.2]
    · refine ⟨(i + xs.length).toNat, ?_, by omega⟩
      rw [if_neg h0, if_pos h.1]
  obtain ⟨j, e, hj⟩ := hk
  rw [e]
  show (xs.map V.int)[j]? = some (V.int ((xs[j]?).getD 0))
  rw [List.getElem?_map, List.getElem?_eq_getElem hj] <;> rfl
def cutI (xs : List Int) (lo hi : Option Int) : List Int := (xs.drop (HT.sIx xs.length 0 lo)).take (HT.sIx xs.length xs.length hi - HT.sIx xs.length 0 lo)
theorem cut_int {xs : List Int} {lo hi : Option Int} {H : Hp} {p : Addr} (h : H p = some (.lst (cutV (xs.map V.int) lo hi))) : H p = some (.lst ((cutI xs lo hi).map V.int)) := by
  rw [h]
  unfold cutV cutI
  rw [List.length_map, List.map_take, List.map_drop]
def rep (xs : List Int) (k : Int) : List Int := (List.replicate k.toNat xs).flatten
theorem rep_int {xs : List Int} {k : Int} {H : Hp} {p : Addr} (h : H p = some (.lst (List.replicate k.toNat (xs.map V.int)).flatten)) : H p = some (.lst ((rep xs k).map V.int)) := by
  rw [h]
  unfold rep
  rw [List.map_flatten, List.map_replicate]
theorem divW_lit {i j : Int} (h : 0 < j) (h2 : j.natAbs.log2 < 9000) : CDivW i j := ⟨h, h2⟩
theorem divW_small {i j : Int} (h : 0 < j) (h2 : j < 2 ^ 128) : CDivW i j := wide_div h (show j.natAbs < 2 ^ 128 by omega) (by decide) (by decide)
theorem comp_list {xs : List Int} {i : Nat} {x y : Int} {f : Int → Int} {H : Hp} {D : Addr} (hi : xs[i]? = some x) (h : H D = some (.lst (((xs.take i).map f).map V.int ++ [V.int y]))) (e : f x = y) : H D = some (.lst (((xs.take (i + 1)).map f).map V.int)) := by
  rw [h, ← e, List.take_succ, hi, List.map_append, List.map_append] <;> rfl
theorem comp_done {xs : List Int} {f : Int → Int} {H : Hp} {D : Addr} (h : H D = some (.lst (((xs.take (xs.map V.int).length).map f).map V.int))) : H D = some (.lst ((xs.map f).map V.int)) := by
  rw [List.length_map, List.take_length] at h
  exact h
theorem comp_range {i : Nat} {y : Int} {f : Nat → Int} {H : Hp} {D : Addr} (h : H D = some (.lst (((List.range i).map f).map V.int ++ [V.int y]))) (e : f i = y) : H D = some (.lst (((List.range (i + 1)).map f).map V.int)) := by
  rw [h, ← e, List.range_succ, List.map_append, List.map_append] <;> rfl
theorem iteBT {b : Bool} {A B : Prop} (h : b = true) (k : A) : if b = true then A else B := by rw [if_pos h]; exact k
theorem iteBF {b : Bool} {A B : Prop} (h : b = false) (k : B) : if b = true then A else B := by rw [if_neg (by rw [h]; decide)]; exact k
theorem take_succ_get {α : Type} {xs : List α} {i : Nat} {x : α} (hi : xs[i]? = some x) : xs.take (i + 1) = xs.take i ++ [x] := by rw [List.take_succ, hi] <;> rfl
end

/-! ### defs of the module, as callers see them -/
section
variable {P : Program} {w : World} {K : PySem.W.Frag} {mg : Str → Option Value} {base : Heap}
structure DefIn (K : PySem.W.Frag) (mg : Str → Option Value) (x : Str) (st : Stmt) (ps : List Str) : Prop where
  ex : ∃ (f : Addr) (fd : FuncData), Fun K x x st f fd ∧ mg x = some (.ref f) ∧ Binds K fd ps []
structure Cal (P : Program) (w : World) (K : PySem.W.Frag) (mg : Str → Option Value) (base : Heap) (k : Nat) (x : Str) (sp : Sp) : Prop where
  ex : ∃ (f : Addr) (fd : FuncData) (ps : List Str), FnOk P w K mg base CX0 k f fd ps sp ∧ mg x = some (.ref f) ∧ PySem.W.keepIn K (.ref f) = true ∧ Binds K fd ps []
theorem DefIn.ok {x : Str} {st : Stmt} {N ps : List Str} {k : Nat} {sp : Sp} (D : DefIn K mg x st ps) (S : FnScope N ps (defScope st)) (len : ∀ vs H Q E, sp vs H Q E → vs.length = ps.length)
    (hbody : ∀ (f : Addr) (cdv : Value) (A : Around) (outer : List Env) (s : Shared) (H : Hp) (vs : List V) (Q : VK) (E : XK), Room k (A.deeper (envOfC x (defScope st) s.heap.objs.size f cdv)) → sp vs H Q E →
      ∃ t, PSs (cxOf CX0 P w K mg base N x (defScope st) f cdv A outer s H E).nox (defBody st) t ∧ t { nx := fun _ H' => Q .non H', rt := Q } (start N vs) H) : Cal P w K mg base (k + 1) x sp := by
  obtain ⟨f, fd, F, hm, b⟩ := D.ex
  exact ⟨f, fd, ps, F.ok S len (fun cdv A outer s H vs Q E hr h => hbody f cdv A outer s H vs Q E hr h), hm, F.kp, b⟩
end
section
variable {X : Cx} {k j : Nat} {x : Str} {sp : Sp} {p pos : Pos} {e : Expr} {es : List Expr} {t : TA}
theorem vx_call (c : Cal X.prog X.w X.K X.mg X.base k x sp) (hr : Room j X.A) (hk : k ≤ j) (hg : Gl X x) (ha : PA X (e :: es) t)
    (hdb : (x == ("__debug__" : Str)) = false := by decide) (he : starEach (e :: es) X.env = (false, eval e X.env) :: starEach es X.env := by rfl) (hpl : (backTo pos (starEach es X.env)).any (·.1) = false := by rfl) :
    PE X (.Call (.Name x p) (e :: es) [] pos) (tCall sp [] E0 t) := by
  obtain ⟨f, fd, ps, F, hm, kp, b⟩ := c.ex
  exact pe_call F (hr.mono hk) hg hm kp b .nil pass0 ha hdb he hpl
end
end Vx

namespace Vx
open PySem PySem.Spec PyProof.Rows L2
section
variable {σ : L2.St} {H : Hp} {ta tb : TE} {x y z : V} {t : TT}
theorem vv_and {a b : Bool} (h1 : Val ta σ H (.bl a)) (h2 : Val tb σ H (.bl b)) : Val (tAndV ta tb) σ H (.bl (a && b)) := fun Q q => h1 _ ⟨a, rfl, by
  cases a with
  | true => exact iteT (h2 Q q)
  | false => exact iteF q⟩
theorem vv_or {a b : Bool} (h1 : Val ta σ H (.bl a)) (h2 : Val tb σ H (.bl b)) : Val (tOrV ta tb) σ H (.bl (a || b)) := fun Q q => h1 _ ⟨a, rfl, by
  cases a with
  | true => exact iteT q
  | false => exact iteF (h2 Q q)⟩
theorem vv_not {a : Bool} (h1 : Val ta σ H (.bl a)) : Val (tNotV ta) σ H (.bl (!a)) := fun Q q => h1 _ ⟨a, rfl, q⟩
theorem vv_un {r : V → Hp → VK → Prop} (ha : Val ta σ H x) (hr : ∀ Q : VK, Q z H → r x H Q) : Val (tUn r ta) σ H z := fun Q q => ha _ (hr Q q)
theorem vv_cmp {p : Int → Int → Bool} (ha : Val ta σ H x) (hb : Val tb σ H y) (hr : ∀ Q : VK, Q z H → ∃ i j, x = .int i ∧ y = .int j ∧ Q (.bl (p i j)) H) : Val (tCmp p ta tb) σ H z := fun Q q => ha _ (hb _ (hr Q q))
theorem vv_call1 {r : List V → Hp → VK → Prop} (ha : Val ta σ H x) (hr : ∀ Q : VK, Q z H → r [x] H Q) : Val (tCB r (tCons ta tNil)) σ H z := fun Q q => ha _ (hr Q q)
theorem vt_cmp {b : Bool} (h : Val ta σ H (.bl b)) : Ans (tB ta) σ H b := fun Q q => h _ ⟨b, rfl, q⟩
theorem vt_val {b : Bool} (h : Val ta σ H (.bl b)) : Ans (tB ta) σ H b := fun Q q => h _ ⟨b, rfl, q⟩
theorem vt_int {i : Int} {K : PySem.W.Frag} (h : Val ta σ H (.int i)) : Ans (fun σ H Q => ta σ H fun x H' => ∃ k, TruV K x H' k ∧ Q k H') σ H (i != 0) := fun Q q => h _ ⟨_, rfl, q⟩
theorem vv_if {p : Prop} [Decidable p] {a b : Int} (ht : Ans t σ H (decide p)) (hx : Val ta σ H (.int a)) (hy : Val tb σ H (.int b)) : Val (tIf t ta tb) σ H (.int (if p then a else b)) := fun Q q => ht _ (by
  by_cases h : p
  · rw [if_pos h] at q; exact iteDT h (hx Q q)
  · rw [if_neg h] at q; exact iteDF h (hy Q q))
theorem vv_ifb {c : Bool} {a b : Int} (ht : Ans t σ H c) (hx : Val ta σ H (.int a)) (hy : Val tb σ H (.int b)) : Val (tIf t ta tb) σ H (.int (if c = true then a else b)) := fun Q q => ht _ (by
  cases c with
  | true => exact iteT (hx Q q)
  | false => exact iteF (hy Q q))
end
end Vx

namespace Vx
open PySem PySem.Spec PyProof.Rows L2
def rLenLi (K : PySem.W.Frag) : List V → Hp → VK → Prop := fun xs H Q => ∃ (p : Addr) (ns : List Int), xs = [.ref p] ∧ SqL K H p (ns.map V.int) ∧ Q (.int (ns.length : Int)) H
theorem call_lenLi {X : Cx} : CallR X (.builtin "len") (rLenLi X.K) := by
  intro pins s σ H xs us Q I r h
  obtain ⟨p, ns, rfl, hs, q⟩ := h
  exact call_len_seq pins s σ H _ us Q I r ⟨p, _, rfl, Or.inl hs, by rw [List.length_map]; exact q⟩
end Vx

namespace Vx
open PySem PySem.Spec PyProof.Rows L2
section
variable {X : Cx} {K : PySem.W.Frag}
theorem ix_listK (hK : X.K = K := by rfl) : IxR X (rIxL K) := hK ▸ ix_list
theorem sl_listK (hK : X.K = K := by rfl) : SlR X (rSlL K) := hK ▸ sl_list
theorem call_lenLiK (hK : X.K = K := by rfl) : CallR X (.builtin "len") (rLenLi K) := hK ▸ call_lenLi
theorem op_eqLiK (hu : X.A.units + 64 < cLine) (hK : X.K = K := by rfl) : OpR X (compareOp .Eq) (rEqLi K) := hK ▸ op_eqLi hu
theorem op_neLiK (hu : X.A.units + 64 < cLine) (hK : X.K = K := by rfl) : OpR X (compareOp .NotEq) (rNeLi K) := hK ▸ op_neLi hu
theorem pi_listK {tg l : Expr} {tl : TE} (hl : PE X l tl) (hK : X.K = K := by rfl) : PI X tg l (iList K tl) := hK ▸ pi_list hl
theorem cr_sumK (hc : X.calm = true) (hK : X.K = K := by rfl) : CallR X (.builtin "sum") (rSum K) := hK ▸ cr_sum hc
theorem cr_maxK (hc : X.calm = true) (hK : X.K = K := by rfl) : CallR X (.builtin "max") (rMax K) := hK ▸ cr_max hc
theorem cr_minK (hc : X.calm = true) (hK : X.K = K := by rfl) : CallR X (.builtin "min") (rMin K) := hK ▸ cr_min hc
end
end Vx

namespace Vx
open PySem PySem.Spec PyProof.Rows L2
theorem tyes_go {σ : L2.St} {H : Hp} {f g : Hp → Prop} (h : f H) : tYes σ H (fun b H3 => if b = true then f H3 else g H3) := by
  show if true = true then f H else g H
  exact iteT h
end Vx

/-! # second part: data of any depth, the stable heap G, the owned addresses O -/
namespace Vx
open PySem PySem.Spec PyProof.Rows L2
mutual
inductive Rp (H : Hp) : V → PyData → Prop
  | non : Rp H .non .none
  | bl (b : Bool) : Rp H (.bl b) (.bool b)
  | int (i : Int) : Rp H (.int i) (.int i)
  | str (x : Str) : Rp H (.str x) (.str x)
  | lst {a : Addr} {xs : List V} {ds : List PyData} : H a = some (.lst xs) → RpAll H xs ds → Rp H (.ref a) (.list ds)
  | tup {a : Addr} {xs : List V} {ds : List PyData} : H a = some (.tup xs) → RpAll H xs ds → Rp H (.ref a) (.tuple ds)
inductive RpAll (H : Hp) : List V → List PyData → Prop
  | nil : RpAll H [] []
  | cons {v : V} {vs : List V} {d : PyData} {ds : List PyData} : Rp H v d → RpAll H vs ds → RpAll H (v :: vs) (d :: ds)
end
mutual
theorem Rp.mono {H H' : Hp} (e : Same H H') : ∀ {v : V} {d : PyData}, Rp H v d → Rp H' v d
  | _, _, .non => .non
  | _, _, .bl b => .bl b
  | _, _, .int i => .int i
  | _, _, .str x => .str x
  | _, _, .lst h r => .lst (e _ _ h) (RpAll.mono e r)
  | _, _, .tup h r => .tup (e _ _ h) (RpAll.mono e r)
theorem RpAll.mono {H H' : Hp} (e : Same H H') : ∀ {vs : List V} {ds : List PyData}, RpAll H vs ds → RpAll H' vs ds
  | _, _, .nil => .nil
  | _, _, .cons a b => .cons (Rp.mono e a) (RpAll.mono e b)
end
mutual
theorem Rp.dp {K : PySem.W.Frag} {H : Hp} : ∀ {v : V} {d : PyData}, Rp H v d → Dp K H v d
  | _, _, .non => .non
  | _, _, .bl b => .bl b
  | _, _, .int i => .int i
  | _, _, .str x => .str x
  | _, _, .lst h r => .lst (SqL.of h) (RpAll.dp r)
  | _, _, .tup h r => .tup (SqT.of h) (RpAll.dp r)
theorem RpAll.dp {K : PySem.W.Frag} {H : Hp} : ∀ {vs : List V} {ds : List PyData}, RpAll H vs ds → DpAll K H vs ds
  | _, _, .nil => .nil
  | _, _, .cons a b => .cons (Rp.dp a) (RpAll.dp b)
end
theorem RpAll.append {H : Hp} : ∀ {xs ys : List V} {ds es : List PyData}, RpAll H xs ds → RpAll H ys es → RpAll H (xs ++ ys) (ds ++ es)
  | _, _, _, _, .nil, s => s
  | _, _, _, _, .cons r t, s => .cons r (RpAll.append t s)
theorem RpAll.ints {H : Hp} : ∀ xs : List Int, RpAll H (xs.map V.int) (xs.map PyData.int)
  | [] => .nil
  | x :: xs => .cons (.int x) (RpAll.ints xs)
theorem RpAll.bls {H : Hp} : ∀ xs : List Bool, RpAll H (xs.map V.bl) (xs.map PyData.bool)
  | [] => .nil
  | x :: xs => .cons (.bl x) (RpAll.bls xs)
theorem RpAll.one {H : Hp} {v : V} {d : PyData} (h : Rp H v d) : RpAll H [v] [d] := .cons h .nil
theorem RpAll.len {H : Hp} : ∀ {vs : List V} {ds : List PyData}, RpAll H vs ds → vs.length = ds.length
  | _, _, .nil => rfl
  | _, _, .cons _ t => by rw [List.length_cons, List.length_cons, RpAll.len t]
theorem RpAll.at {H : Hp} : ∀ {vs : List V} {ds : List PyData} {i : Nat} {v : V}, RpAll H vs ds → vs[i]? = some v → ∃ d, ds[i]? = some d ∧ Rp H v d
  | _, _, _, _, .nil, h => by simp at h
  | _, _, 0, _, .cons r _, h => by
    simp at h
    subst h
    exact ⟨_, rfl, r⟩
  | _, _, i + 1, _, .cons _ t, h => by
    obtain ⟨d, h1, h2⟩ := RpAll.at (i := i) t (by simpa using h)
    exact ⟨d, by simpa using h1, h2⟩
theorem RpAll.at' {H : Hp} : ∀ {vs : List V} {ds : List PyData} {i : Nat} {d : PyData}, RpAll H vs ds → ds[i]? = some d → ∃ v, vs[i]? = some v ∧ Rp H v d
  | _, _, _, _, .nil, h => by simp at h
  | _, _, 0, _, .cons r _, h => by
    simp at h
    subst h
    exact ⟨_, rfl, r⟩
  | _, _, i + 1, _, .cons _ t, h => by
    obtain ⟨v, h1, h2⟩ := RpAll.at' (i := i) t (by simpa using h)
    exact ⟨v, by simpa using h1, h2⟩
theorem RpAll.take {H : Hp} : ∀ (n : Nat) {vs : List V} {ds : List PyData}, RpAll H vs ds → RpAll H (vs.take n) (ds.take n)
  | 0, _, _, _ => by simpa using RpAll.nil
  | n + 1, _, _, .nil => by simpa using RpAll.nil
  | n + 1, _, _, .cons r t => .cons r (RpAll.take n t)
theorem RpAll.drop {H : Hp} : ∀ (n : Nat) {vs : List V} {ds : List PyData}, RpAll H vs ds → RpAll H (vs.drop n) (ds.drop n)
  | 0, _, _, r => r
  | n + 1, _, _, .nil => by simpa using RpAll.nil
  | n + 1, _, _, .cons r t => RpAll.drop n t
theorem RpAll.set {H : Hp} {v : V} {d : PyData} (h : Rp H v d) : ∀ (n : Nat) {vs : List V} {ds : List PyData}, RpAll H vs ds → RpAll H (vs.set n v) (ds.set n d)
  | _, _, _, .nil => .nil
  | 0, _, _, .cons _ t => .cons h t
  | n + 1, _, _, .cons r t => .cons r (RpAll.set h n t)
theorem RpAll.rep {H : Hp} {vs : List V} {ds : List PyData} (h : RpAll H vs ds) : ∀ n : Nat, RpAll H (List.replicate n vs).flatten (List.replicate n ds).flatten
  | 0 => by simpa using RpAll.nil
  | n + 1 => by
    rw [List.replicate_succ, List.flatten_cons, List.replicate_succ, List.flatten_cons]
    exact RpAll.append h (RpAll.rep h n)
theorem RpAll.get {α : Type} {f : α → PyData} {H : Hp} {vs : List V} {xs : List α} {i : Nat} {v : V} (r : RpAll H vs (xs.map f)) (h : vs[i]? = some v) : ∃ x, xs[i]? = some x ∧ Rp H v (f x) := by
  obtain ⟨d, h1, h2⟩ := RpAll.at r h
  rw [List.getElem?_map] at h1
  cases e : xs[i]? with
  | none => rw [e] at h1; cases h1
  | some x =>
    rw [e] at h1
    have : f x = d := Option.some.inj h1
    exact ⟨x, rfl, this ▸ h2⟩
/-- the item at an index, data -/
theorem RpAll.ix {α : Type} {f : α → PyData} {H : Hp} {vs : List V} {xs : List α} {k : Int} (r : RpAll H vs (xs.map f)) (h : -(xs.length : Int) ≤ k ∧ k < xs.length) : ∃ v x, atI vs k = some v ∧ atI xs k = some x ∧ Rp H v (f x) := by
  have hl : vs.length = xs.length := by rw [r.len, List.length_map]
  have hk : ∃ j, ixN xs.length k = some j ∧ j < xs.length := by
    unfold ixN
    by_cases h0 : 0 ≤ k
    · refine ⟨k.toNat, ?_, by omega⟩
      rw [if_pos h0, if_pos h.2]
    · refine ⟨(k + xs.length).toNat, ?_, by omega⟩
      rw [if_neg h0, if_pos h.1]
  obtain ⟨j, e, hj⟩ := hk
  have hx := List.getElem?_eq_getElem hj
  obtain ⟨v, h1, h2⟩ := RpAll.at' (i := j) (d := f xs[j]) r (by rw [List.getElem?_map, hx] <;> rfl)
  refine ⟨v, xs[j], ?_, ?_, h2⟩
  · unfold atI
    rw [hl, e]
    exact h1
  · unfold atI
    rw [e]
    exact hx

/-! ### types -/
def encL {α : Type} (f : α → PyData) (xs : List α) : PyData := .list (xs.map f)
def encT2 {α β : Type} (f : α → PyData) (g : β → PyData) (p : α × β) : PyData := .tuple [f p.1, g p.2]
def encT3 {α β γ : Type} (f : α → PyData) (g : β → PyData) (h : γ → PyData) (p : α × β × γ) : PyData := .tuple [f p.1, g p.2.1, h p.2.2]
def encT4 {α β γ δ : Type} (f : α → PyData) (g : β → PyData) (h : γ → PyData) (i : δ → PyData) (p : α × β × γ × δ) : PyData := .tuple [f p.1, g p.2.1, h p.2.2.1, i p.2.2.2]
structure EncOk {α : Type} [DecidableEq α] (n : Nat) (f : α → PyData) : Prop where
  lay : ∀ x, PyData.canLay0 (f x) = true
  dep : ∀ x, PyData.depth (f x) ≤ n
  eqv : ∀ x y, PyData.eqv (f x) (f y) = decide (x = y)
theorem encOk_int : EncOk 0 PyData.int := ⟨fun _ => by simp [PyData.canLay0], fun _ => by simp [PyData.depth], fun x y => by simp [PyData.eqv]; by_cases h : x = y <;> simp [h]⟩
theorem encOk_bool : EncOk 0 PyData.bool := ⟨fun _ => by simp [PyData.canLay0], fun _ => by simp [PyData.depth], fun x y => by cases x <;> cases y <;> simp [PyData.eqv]⟩
section
variable {α β γ δ : Type} [DecidableEq α] [DecidableEq β] [DecidableEq γ] [DecidableEq δ] {n m l o : Nat} {f : α → PyData} {g : β → PyData} {h : γ → PyData} {i : δ → PyData}
theorem lay_map (ok : EncOk n f) : ∀ xs : List α, PyData.canLayAll0 (xs.map f) = true
  | [] => by simp [PyData.canLayAll0]
  | x :: xs => by simp [PyData.canLayAll0, ok.lay x, lay_map ok xs]
theorem dep_map (ok : EncOk n f) : ∀ xs : List α, PyData.depthAll (xs.map f) ≤ n
  | [] => by simp [PyData.depthAll]
  | x :: xs => by
    have h1 := ok.dep x
    have h2 := dep_map ok xs
    simp only [List.map_cons, PyData.depthAll]
    omega
theorem eqv_map (ok : EncOk n f) : ∀ xs ys : List α, PyData.eqvAll (xs.map f) (ys.map f) = decide (xs = ys)
  | [], [] => by simp [PyData.eqvAll]
  | [], y :: ys => by simp [PyData.eqvAll]
  | x :: xs, [] => by simp [PyData.eqvAll]
  | x :: xs, y :: ys => by
    have ih := eqv_map ok xs ys
    simp only [List.map_cons, PyData.eqvAll, ok.eqv, ih]
    by_cases h : x = y <;> by_cases h2 : xs = ys <;> simp [h, h2]
theorem encOk_L (ok : EncOk n f) : EncOk (n + 1) (encL f) := ⟨fun xs => by simp [encL, PyData.canLay0, lay_map ok], fun xs => by
  have := dep_map ok xs
  simp only [encL, PyData.depth]
  omega, fun xs ys => by simp only [encL, PyData.eqv]; exact eqv_map ok xs ys⟩
theorem encOk_T2 (ok : EncOk n f) (ok2 : EncOk m g) : EncOk (max n m + 1) (encT2 f g) := ⟨fun x => by simp [encT2, PyData.canLay0, PyData.canLayAll0, ok.lay, ok2.lay], fun x => by
  have h1 := ok.dep x.1
  have h2 := ok2.dep x.2
  simp only [encT2, PyData.depth, PyData.depthAll]
  omega, fun x y => by
  obtain ⟨a, b⟩ := x
  obtain ⟨c, d⟩ := y
  simp only [encT2, PyData.eqv, PyData.eqvAll, ok.eqv, ok2.eqv, Prod.mk.injEq]
  by_cases h1 : a = c <;> by_cases h2 : b = d <;> simp [h1, h2]⟩
theorem encOk_T3 (ok : EncOk n f) (ok2 : EncOk m g) (ok3 : EncOk l h) : EncOk (max n (max m l) + 1) (encT3 f g h) := ⟨fun x => by simp [encT3, PyData.canLay0, PyData.canLayAll0, ok.lay, ok2.lay, ok3.lay], fun x => by
  have h1 := ok.dep x.1
  have h2 := ok2.dep x.2.1
  have h3 := ok3.dep x.2.2
  simp only [encT3, PyData.depth, PyData.depthAll]
  omega, fun x y => by
  obtain ⟨a, b, e⟩ := x
  obtain ⟨c, d, e'⟩ := y
  simp only [encT3, PyData.eqv, PyData.eqvAll, ok.eqv, ok2.eqv, ok3.eqv, Prod.mk.injEq]
  by_cases h1 : a = c <;> by_cases h2 : b = d <;> by_cases h3 : e = e' <;> simp [h1, h2, h3]⟩
theorem encOk_T4 (ok : EncOk n f) (ok2 : EncOk m g) (ok3 : EncOk l h) (ok4 : EncOk o i) : EncOk (max n (max m (max l o)) + 1) (encT4 f g h i) := ⟨fun x => by simp [encT4, PyData.canLay0, PyData.canLayAll0, ok.lay, ok2.lay, ok3.lay, ok4.lay], fun x => by
  have h1 := ok.dep x.1
  have h2 := ok2.dep x.2.1
  have h3 := ok3.dep x.2.2.1
  have h4 := ok4.dep x.2.2.2
  simp only [encT4, PyData.depth, PyData.depthAll]
  omega, fun x y => by
  obtain ⟨a, b, e, u⟩ := x
  obtain ⟨c, d, e', u'⟩ := y
  simp only [encT4, PyData.eqv, PyData.eqvAll, ok.eqv, ok2.eqv, ok3.eqv, ok4.eqv, Prod.mk.injEq]
  by_cases h1 : a = c <;> by_cases h2 : b = d <;> by_cases h3 : e = e' <;> by_cases h4 : u = u' <;> simp [h1, h2, h3, h4]⟩
end
section
variable {X : Cx} {α : Type} [DecidableEq α] {n : Nat} {f : α → PyData}
def rEqT (f : α → PyData) : R2 := fun x y H Q => ∃ (a b : α), Rp H x (f a) ∧ Rp H y (f b) ∧ Q (.bl (decide (a = b))) H
def rNeT (f : α → PyData) : R2 := fun x y H Q => ∃ (a b : α), Rp H x (f a) ∧ Rp H y (f b) ∧ Q (.bl (!decide (a = b))) H
theorem shaped_of (ok : EncOk n f) (hn : n ≤ 64) (a : α) : SeqAt.shaped (f a) = true := by
  unfold SeqAt.shaped
  have h := ok.dep a
  rw [ok.lay]
  simp
  omega
theorem op_eqT (ok : EncOk n f) (hu : X.A.units + 64 < cLine) (hn : n ≤ 64 := by decide) : OpR X (compareOp .Eq) (rEqT f) := by
  intro pins s σ H x y v u Q I rx ry h
  obtain ⟨a, b, h1, h2, q⟩ := h
  exact op_eqD hu pins s σ H _ _ v u Q I rx ry ⟨_, _, h1.dp, h2.dp, shaped_of ok hn a, shaped_of ok hn b, by rw [ok.eqv]; exact q⟩
theorem op_neT (ok : EncOk n f) (hu : X.A.units + 64 < cLine) (hn : n ≤ 64 := by decide) : OpR X (compareOp .NotEq) (rNeT f) := by
  intro pins s σ H x y v u Q I rx ry h
  obtain ⟨a, b, h1, h2, q⟩ := h
  exact op_neD hu pins s σ H _ _ v u Q I rx ry ⟨_, _, h1.dp, h2.dp, shaped_of ok hn a, shaped_of ok hn b, by rw [ok.eqv]; exact q⟩
end
section
variable {H : Hp} {v : V} {α β γ δ : Type} {f : α → PyData} {g : β → PyData} {h : γ → PyData} {i : δ → PyData}
theorem rp_int {x : Int} (r : Rp H v (.int x)) : v = .int x := by cases r; rfl
theorem rp_bool {x : Bool} (r : Rp H v (.bool x)) : v = .bl x := by cases r; rfl
theorem rp_str {x : Str} (r : Rp H v (.str x)) : v = .str x := by cases r; rfl
theorem rp_list {xs : List α} (r : Rp H v (encL f xs)) : ∃ a vs, v = .ref a ∧ H a = some (.lst vs) ∧ RpAll H vs (xs.map f) := by
  unfold encL at r
  cases r with
  | lst h1 h2 => exact ⟨_, _, rfl, h1, h2⟩
theorem rpAll_ints : ∀ {vs : List V} {xs : List Int}, RpAll H vs (xs.map PyData.int) → vs = xs.map V.int
  | _, [], .nil => rfl
  | _, x :: xs, .cons r t => by rw [rp_int r, rpAll_ints t] <;> rfl
theorem rp_ints {xs : List Int} (r : Rp H v (encL PyData.int xs)) : ∃ a, v = .ref a ∧ H a = some (.lst (xs.map V.int)) := by
  obtain ⟨a, vs, e, h1, h2⟩ := rp_list r
  rw [rpAll_ints h2] at h1
  exact ⟨a, e, h1⟩
theorem rp_tup2 {x : α × β} (r : Rp H v (encT2 f g x)) : ∃ a v1 v2, v = .ref a ∧ H a = some (.tup [v1, v2]) ∧ Rp H v1 (f x.1) ∧ Rp H v2 (g x.2) := by
  unfold encT2 at r
  cases r with
  | tup h1 h2 =>
    cases h2 with
    | cons a b =>
      cases b with
      | cons b c =>
        cases c
        exact ⟨_, _, _, rfl, h1, a, b⟩
theorem rp_tup3 {x : α × β × γ} (r : Rp H v (encT3 f g h x)) : ∃ a v1 v2 v3, v = .ref a ∧ H a = some (.tup [v1, v2, v3]) ∧ Rp H v1 (f x.1) ∧ Rp H v2 (g x.2.1) ∧ Rp H v3 (h x.2.2) := by
  unfold encT3 at r
  cases r with
  | tup h1 h2 =>
    cases h2 with
    | cons a b =>
      cases b with
      | cons b c =>
        cases c with
        | cons c d =>
          cases d
          exact ⟨_, _, _, _, rfl, h1, a, b, c⟩
theorem rp_mk_list {a : Addr} {vs : List V} {xs : List α} (h1 : H a = some (.lst vs)) (h2 : RpAll H vs (xs.map f)) : Rp H (.ref a) (encL f xs) := .lst h1 h2
theorem rp_mk_ints {a : Addr} {xs : List Int} (h1 : H a = some (.lst (xs.map V.int))) : Rp H (.ref a) (encL PyData.int xs) := .lst h1 (RpAll.ints xs)
theorem rp_mk2 {a : Addr} {v1 v2 : V} {x : α} {y : β} (h1 : H a = some (.tup [v1, v2])) (r1 : Rp H v1 (f x)) (r2 : Rp H v2 (g y)) : Rp H (.ref a) (encT2 f g (x, y)) := .tup h1 (.cons r1 (.cons r2 .nil))
theorem rp_mk3 {a : Addr} {v1 v2 v3 : V} {x : α} {y : β} {z : γ} (h1 : H a = some (.tup [v1, v2, v3])) (r1 : Rp H v1 (f x)) (r2 : Rp H v2 (g y)) (r3 : Rp H v3 (h z)) : Rp H (.ref a) (encT3 f g h (x, y, z)) := .tup h1 (.cons r1 (.cons r2 (.cons r3 .nil)))
end

/-! ### the two heaps -/
def SameXs (L : List Addr) (H H' : Hp) : Prop := ∀ b o, H b = some o → b ∉ L → H' b = some o
theorem SameXs.of {H H' : Hp} {m : Addr} (x : SameX m H H') : SameXs [m] H H' := fun b o e n => x b o e (fun z => n (by rw [z]; exact List.mem_cons_self))
theorem ni1 {b m : Addr} (h : b ≠ m) : b ∉ [m] := by simpa using h
theorem ni2 {b m n : Addr} (h : b ≠ m) (h2 : b ≠ n) : b ∉ [m, n] := by simp [h, h2]
theorem ni3 {b m n o : Addr} (h : b ≠ m) (h2 : b ≠ n) (h3 : b ≠ o) : b ∉ [m, n, o] := by simp [h, h2, h3]
theorem ni4 {b m n o p : Addr} (h : b ≠ m) (h2 : b ≠ n) (h3 : b ≠ o) (h4 : b ≠ p) : b ∉ [m, n, o, p] := by simp [h, h2, h3, h4]
def hideL (L : List Addr) (H : Hp) : Hp := fun b => if b ∈ L then none else H b
theorem hideL_same (L : List Addr) (H : Hp) : Same (hideL L H) H := fun b o e => by
  unfold hideL at e
  split at e
  · cases e
  · exact e
theorem hideL_in {L : List Addr} {H : Hp} {b : Addr} (h : b ∈ L) : hideL L H b = none := if_pos h
theorem hideL_out {L : List Addr} {H : Hp} {b : Addr} (h : b ∉ L) : hideL L H b = H b := if_neg h
/-- M: owned from outside; H0, G0: at the entry; G: what stays as it is; O: what may change -/
structure Sep (M : List Addr) (H0 G0 G H : Hp) (O : List Addr) : Prop where
  base : SameXs M H0 H
  pm : ∀ a ∈ M, H a ≠ none
  sG : Same G H
  g0 : Same G0 G
  gn : ∀ b, H0 b ≠ none → G0 b = none → G b = none
  ow : ∀ a ∈ O, G a = none ∧ H a ≠ none ∧ (a ∈ M ∨ H0 a = none)
theorem all_nil {P : Addr → Prop} : ∀ x ∈ ([] : List Addr), P x := fun x h => by cases h
theorem all_cons {P : Addr → Prop} {a : Addr} {l : List Addr} (h : P a) (t : ∀ x ∈ l, P x) : ∀ x ∈ a :: l, P x := fun x hx => by
  cases hx with
  | head => exact h
  | tail _ hx => exact t x hx
theorem some_ne {H : Hp} {a : Addr} {o : HO} (h : H a = some o) : H a ≠ none := by
  rw [h]
  exact fun z => nomatch z
theorem same_ne {H H' : Hp} {a : Addr} (e : Same H H') (h : H a ≠ none) : H' a ≠ none := by
  cases q : H a with
  | none => exact absurd q h
  | some o => exact some_ne (e a o q)
section
variable {M : List Addr} {H0 G0 G H H' : Hp} {O : List Addr} {p m : Addr} {o : HO}
theorem Sep.start (M : List Addr) (H : Hp) (hM : ∀ a ∈ M, H a ≠ none) : Sep M H (hideL M H) (hideL M H) H M :=
  ⟨fun _ _ e _ => e, hM, hideL_same M H, Same.refl _, fun _ _ e => e, fun a ha => ⟨hideL_in ha, hM a ha, .inl ha⟩⟩
theorem Sep.startG {G H : Hp} (e : Same G H) : Sep [] H G G H [] := ⟨fun _ _ e _ => e, all_nil, e, Same.refl _, fun _ _ e => e, fun a ha => by cases ha⟩
theorem Sep.start0 (H : Hp) : Sep [] H H H H [] := Sep.startG (Same.refl H)
theorem Sep.b0 (S : Sep [] H0 G0 G H O) : Same H0 H := fun b o e => S.base b o e List.not_mem_nil
theorem Sep.free (S : Sep M H0 G0 G H O) {q : Addr} (n : H q = none) : H0 q = none := by
  cases e : H0 q with
  | none => rfl
  | some o =>
    by_cases h : q ∈ M
    · exact absurd n (S.pm q h)
    · rw [S.base q o e h] at n
      cases n
theorem Sep.same (S : Sep M H0 G0 G H O) (e : Same H H') : Sep M H0 G0 G H' O :=
  ⟨fun b o h n => e b o (S.base b o h n), fun a ha => same_ne e (S.pm a ha), S.sG.trans e, S.g0, S.gn, fun a ha => ⟨(S.ow a ha).1, same_ne e (S.ow a ha).2.1, (S.ow a ha).2.2⟩⟩
theorem Sep.gfree (S : Sep M H0 G0 G H O) {q : Addr} (n : H q = none) : G q = none := by
  cases e : G q with
  | none => rfl
  | some o => rw [S.sG q o e] at n; cases n
theorem Sep.new (S : Sep M H0 G0 G H O) (n : H p = none) (e : Same H H') (h : H' p = some o) (hm : H0 p = none) : Sep M H0 G0 G H' (p :: O) := by
  have S1 := S.same e
  refine ⟨S1.base, S1.pm, S1.sG, S1.g0, S1.gn, fun a ha => ?_⟩
  cases ha with
  | head => exact ⟨S.gfree n, some_ne h, .inr hm⟩
  | tail _ ha => exact S1.ow a ha
theorem Sep.grow (S : Sep M H0 G0 G H O) (n : H p = none) (e : Same H H') (h : H' p = some o) (hm : H0 p = none) : ∃ G', Same G G' ∧ G' p = some o ∧ Sep M H0 G0 G' H' O := by
  have S1 := S.same e
  have ng := S.gfree n
  refine ⟨upd G p o, fun b u q => by rw [upd_ne (ne_of_none q ng)]; exact q, upd_same, S1.base, S1.pm, fun b u q => ?_, fun b u q => ?_, fun b hb gb => ?_, fun a ha => ?_⟩
  · by_cases z : b = p
    · subst z
      rw [upd_same] at q
      exact q ▸ h
    · rw [upd_ne z] at q
      exact S1.sG b u q
  · have := S.g0 b u q
    rw [upd_ne (ne_of_none this ng)]
    exact this
  · by_cases z : b = p
    · subst z
      exact absurd hm hb
    · rw [upd_ne z]
      exact S.gn b hb gb
  · have hne : a ≠ p := fun z => (S.ow a ha).2.1 (by rw [z]; exact n)
    rw [upd_ne hne]
    exact S1.ow a ha
theorem Sep.mut (S : Sep M H0 G0 G H O) {L : List Addr} (x : SameXs L H H') (hL : ∀ a ∈ L, a ∈ O) (hs : ∀ a ∈ L, H' a ≠ none) : Sep M H0 G0 G H' O := by
  have keep : ∀ a, H a ≠ none → H' a ≠ none := fun a h => by
    by_cases hb : a ∈ L
    · exact hs a hb
    · cases q : H a with
      | none => exact absurd q h
      | some o => exact some_ne (x a o q hb)
  refine ⟨fun b o e n => ?_, fun a ha => keep a (S.pm a ha), fun b o e => ?_, S.g0, S.gn, fun a ha => ⟨(S.ow a ha).1, keep a (S.ow a ha).2.1, (S.ow a ha).2.2⟩⟩
  · refine x b o (S.base b o e n) fun hb => ?_
    rcases (S.ow b (hL b hb)).2.2 with z | z
    · exact n z
    · rw [e] at z; cases z
  · refine x b o (S.sG b o e) fun hb => ?_
    have := (S.ow b (hL b hb)).1
    rw [e] at this
    cases this
theorem Sep.mut1 (S : Sep M H0 G0 G H O) (x : SameX m H H') (hm : m ∈ O) (h : H' m = some o) : Sep M H0 G0 G H' O :=
  S.mut (SameXs.of x) (all_cons hm all_nil) (all_cons (some_ne h) all_nil)
theorem Sep.sub (S : Sep M H0 G0 G H O) {O' : List Addr} (h : ∀ a ∈ O', a ∈ O) : Sep M H0 G0 G H O' := ⟨S.base, S.pm, S.sG, S.g0, S.gn, fun a ha => S.ow a (h a ha)⟩
/-- what was owned and is to stay as it is from now on -/
theorem Sep.freeze (S : Sep M H0 G0 G H O) {O' : List Addr} (hp : p ∈ O) (h : H p = some o) (hm : H0 p = none) (hO : ∀ a ∈ O', a ∈ O ∧ a ≠ p) : ∃ G', Same G G' ∧ G' p = some o ∧ Sep M H0 G0 G' H O' := by
  have ng := (S.ow p hp).1
  refine ⟨upd G p o, fun b u q => by rw [upd_ne (ne_of_none q ng)]; exact q, upd_same, S.base, S.pm, fun b u q => ?_, fun b u q => ?_, fun b hb gb => ?_, fun a ha => ?_⟩
  · by_cases z : b = p
    · subst z
      rw [upd_same] at q
      exact q ▸ h
    · rw [upd_ne z] at q
      exact S.sG b u q
  · have := S.g0 b u q
    rw [upd_ne (ne_of_none this ng)]
    exact this
  · by_cases z : b = p
    · subst z
      exact absurd hm hb
    · rw [upd_ne z]
      exact S.gn b hb gb
  · rw [upd_ne (hO a ha).2]
    exact S.ow a (hO a ha).1
/-- a callee that hands on data in a stable heap of its own -/
theorem Sep.step (S : Sep M H0 G0 G H O) {G' : Hp} (e : Same H H') (eG : Same G G') (sG : Same G' H') (hn : ∀ b, H b ≠ none → G b = none → G' b = none) : Sep M H0 G0 G' H' O := by
  have S1 := S.same e
  refine ⟨S1.base, S1.pm, sG, S.g0.trans eG, fun b hb gb => ?_, fun a ha => ⟨hn a (S.ow a ha).2.1 (S.ow a ha).1, (S1.ow a ha).2⟩⟩
  refine hn b (fun z => ?_) (S.gn b hb gb)
  exact hb (S.free z)
theorem Sep.hid (S : Sep M H0 G0 G H O) {L : List Addr} (h : ∀ a ∈ L, a ∈ O) : Same G (hideL L H) := fun b o e => by
  rw [hideL_out fun z => by
    have := (S.ow b (h b z)).1
    rw [e] at this
    cases this]
  exact S.sG b o e
end
end Vx

namespace Vx
open PySem PySem.Spec PyProof.Rows L2
/-! ### lists of plain things (f : V.int, V.bl, V.str) -/
section
variable {α : Type} {f : α → V} {H : Hp} {p : Addr}
theorem cat_map {xs ys : List α} (h : H p = some (.lst (xs.map f ++ ys.map f))) : H p = some (.lst ((xs ++ ys).map f)) := by
  rw [List.map_append]; exact h
theorem snoc_map {xs : List α} {y : α} (h : H p = some (.lst (xs.map f ++ [f y]))) : H p = some (.lst ((xs ++ [y]).map f)) := by
  rw [List.map_append]; exact h
def repL (xs : List α) (k : Int) : List α := (List.replicate k.toNat xs).flatten
theorem rep_map {xs : List α} {k : Int} (h : H p = some (.lst (List.replicate k.toNat (xs.map f)).flatten)) : H p = some (.lst ((repL xs k).map f)) := by
  rw [h]
  unfold repL
  rw [List.map_flatten, List.map_replicate]
def cutL (xs : List α) (lo hi : Option Int) : List α := (xs.drop (HT.sIx xs.length 0 lo)).take (HT.sIx xs.length xs.length hi - HT.sIx xs.length 0 lo)
theorem cut_map {xs : List α} {lo hi : Option Int} (h : H p = some (.lst (cutV (xs.map f) lo hi))) : H p = some (.lst ((cutL xs lo hi).map f)) := by
  rw [h]
  unfold cutV cutL
  rw [List.length_map, List.map_take, List.map_drop]
theorem cast_map {xs ys : List α} (h : H p = some (.lst (xs.map f))) (e : xs = ys) : H p = some (.lst (ys.map f)) := e ▸ h
theorem drop_map {xs : List α} (h : H p = some (.lst (xs.map f).dropLast)) : H p = some (.lst (xs.dropLast.map f)) := by
  rw [h, List.map_dropLast]
theorem ixN_some {n : Nat} {k : Int} (h : -(n : Int) ≤ k ∧ k < n) : ∃ j, ixN n k = some j ∧ j < n := by
  unfold ixN
  by_cases h0 : 0 ≤ k
  · exact ⟨k.toNat, by rw [if_pos h0, if_pos h.2], by omega⟩
  · exact ⟨(k + n).toNat, by rw [if_neg h0, if_pos h.1], by omega⟩
def itD [Inhabited α] (xs : List α) (k : Int) : α := (atI xs k).getD default
theorem atI_map [Inhabited α] {xs : List α} {k : Int} (h : -(xs.length : Int) ≤ k ∧ k < xs.length) : atI (xs.map f) k = some (f (itD xs k)) := by
  obtain ⟨j, e, hj⟩ := ixN_some h
  unfold itD atI
  rw [List.length_map, e]
  show (xs.map f)[j]? = some (f ((xs[j]?).getD default))
  rw [List.getElem?_map, List.getElem?_eq_getElem hj] <;> rfl
def setL (xs : List α) (k : Int) (y : α) : List α := xs.set ((ixN xs.length k).getD 0) y
theorem ixN_map {xs : List α} {k : Int} (h : -(xs.length : Int) ≤ k ∧ k < xs.length) : ixN (xs.map f).length k = some ((ixN xs.length k).getD 0) := by
  obtain ⟨j, e, hj⟩ := ixN_some h
  rw [List.length_map, e] <;> rfl
theorem set_map {xs : List α} {k : Int} {y : α} (h : H p = some (.lst ((xs.map f).set ((ixN xs.length k).getD 0) (f y)))) : H p = some (.lst ((setL xs k y).map f)) := by
  rw [h]
  unfold setL
  rw [List.map_set]
def lastD [Inhabited α] (xs : List α) : α := xs.getLastD default
theorem pop_map [Inhabited α] {xs : List α} (h : xs ≠ []) : (xs.map f)[(xs.map f).length - 1]? = some (f (lastD xs)) := by
  rw [← List.getLast?_eq_getElem?, List.getLast?_map]
  unfold lastD
  cases e : xs.getLast? with
  | none => exact absurd (List.getLast?_eq_none_iff.mp e) h
  | some y =>
    rw [List.getLastD_eq_getLast?, e] <;> rfl
end
/-! ### lists of data -/
section
variable {α β : Type} {f : α → PyData} {g : β → PyData} {G : Hp} {vs ws : List V} {xs ys : List α}
theorem app_map (a : RpAll G vs (xs.map f)) (b : RpAll G ws (ys.map f)) : RpAll G (vs ++ ws) ((xs ++ ys).map f) := by
  rw [List.map_append]; exact a.append b
theorem one_map {v : V} {y : α} (a : RpAll G vs (xs.map f)) (b : Rp G v (f y)) : RpAll G (vs ++ [v]) ((xs ++ [y]).map f) := by
  rw [List.map_append]; exact a.append (.one b)
theorem rep_all (k : Int) (a : RpAll G vs (xs.map f)) : RpAll G (List.replicate k.toNat vs).flatten ((repL xs k).map f) := by
  unfold repL
  rw [List.map_flatten, List.map_replicate]
  exact a.rep _
theorem cut_all (lo hi : Option Int) (a : RpAll G vs (xs.map f)) : RpAll G (cutV vs lo hi) ((cutL xs lo hi).map f) := by
  unfold cutV cutL
  rw [a.len, List.length_map, List.map_take, List.map_drop]
  exact (a.drop _).take _
theorem rp_cast {v : V} {d e : PyData} (r : Rp G v d) (h : d = e) : Rp G v e := h ▸ r
theorem comp_listD {i : Nat} {x : α} {y : β} {v : V} {h : α → β} (hi : xs[i]? = some x) (a : RpAll G vs (((xs.take i).map h).map g)) (r : Rp G v (g y)) (e : h x = y) : RpAll G (vs ++ [v]) (((xs.take (i + 1)).map h).map g) := by
  rw [take_succ_get hi, List.map_append, List.map_append]
  exact a.append (.one (e ▸ r))
theorem comp_rangeD {i : Nat} {y : β} {v : V} {h : Nat → β} (a : RpAll G vs (((List.range i).map h).map g)) (r : Rp G v (g y)) (e : h i = y) : RpAll G (vs ++ [v]) (((List.range (i + 1)).map h).map g) := by
  rw [List.range_succ, List.map_append, List.map_append]
  exact a.append (.one (e ▸ r))
theorem comp_doneD {n : Nat} {h : List α → List β} (hl : n = xs.length) (a : RpAll G vs ((h (xs.take n)).map g)) : RpAll G vs ((h xs).map g) := by
  rw [hl, List.take_length] at a
  exact a
theorem comp_listFD {i : Nat} {x : α} {y : β} {v : V} {h : α → β} {q : α → Bool} (hi : xs[i]? = some x) (hq : q x = true) (a : RpAll G vs ((((xs.take i).filter q).map h).map g)) (r : Rp G v (g y)) (e : h x = y) : RpAll G (vs ++ [v]) ((((xs.take (i + 1)).filter q).map h).map g) := by
  rw [take_succ_get hi, List.filter_append, List.filter_cons, if_pos hq, List.map_append, List.map_append]
  exact a.append (.one (e ▸ r))
theorem skip_listD {i : Nat} {x : α} {h : α → β} {q : α → Bool} (hi : xs[i]? = some x) (hq : q x = false) (a : RpAll G vs ((((xs.take i).filter q).map h).map g)) : RpAll G vs ((((xs.take (i + 1)).filter q).map h).map g) := by
  rw [take_succ_get hi, List.filter_append, List.filter_cons, if_neg (by rw [hq]; decide), List.filter_nil, List.append_nil]
  exact a
end
section
variable {α β : Type} {f : β → V} {H : Hp} {D : Addr} {xs : List α}
theorem compM_list {i : Nat} {x : α} {y : β} {h : α → β} (hi : xs[i]? = some x) (a : H D = some (.lst (((xs.take i).map h).map f ++ [f y]))) (e : h x = y) : H D = some (.lst (((xs.take (i + 1)).map h).map f)) := by
  rw [a, ← e, take_succ_get hi, List.map_append, List.map_append] <;> rfl
theorem compM_range {i : Nat} {y : β} {h : Nat → β} (a : H D = some (.lst (((List.range i).map h).map f ++ [f y]))) (e : h i = y) : H D = some (.lst (((List.range (i + 1)).map h).map f)) := by
  rw [a, ← e, List.range_succ, List.map_append, List.map_append] <;> rfl
theorem compM_done {n : Nat} {h : List α → List β} (hl : n = xs.length) (a : H D = some (.lst ((h (xs.take n)).map f))) : H D = some (.lst ((h xs).map f)) := by
  rw [hl, List.take_length] at a
  exact a
theorem compM_listF {i : Nat} {x : α} {y : β} {h : α → β} {q : α → Bool} (hi : xs[i]? = some x) (hq : q x = true) (a : H D = some (.lst ((((xs.take i).filter q).map h).map f ++ [f y]))) (e : h x = y) : H D = some (.lst ((((xs.take (i + 1)).filter q).map h).map f)) := by
  rw [a, ← e, take_succ_get hi, List.filter_append, List.filter_cons, if_pos hq, List.map_append, List.map_append] <;> rfl
theorem skipM_list {i : Nat} {x : α} {h : α → β} {q : α → Bool} (hi : xs[i]? = some x) (hq : q x = false) (a : H D = some (.lst ((((xs.take i).filter q).map h).map f))) : H D = some (.lst ((((xs.take (i + 1)).filter q).map h).map f)) := by
  rw [a, take_succ_get hi, List.filter_append, List.filter_cons, if_neg (by rw [hq]; decide), List.filter_nil, List.append_nil]
theorem compM_rangeF {i : Nat} {y : β} {h : Nat → β} {q : Nat → Bool} (hq : q i = true) (a : H D = some (.lst ((((List.range i).filter q).map h).map f ++ [f y]))) (e : h i = y) : H D = some (.lst ((((List.range (i + 1)).filter q).map h).map f)) := by
  rw [a, ← e, List.range_succ, List.filter_append, List.filter_cons, if_pos hq, List.map_append, List.map_append] <;> rfl
theorem skipM_range {i : Nat} {h : Nat → β} {q : Nat → Bool} (hq : q i = false) (a : H D = some (.lst ((((List.range i).filter q).map h).map f))) : H D = some (.lst ((((List.range (i + 1)).filter q).map h).map f)) := by
  rw [a, List.range_succ, List.filter_append, List.filter_cons, if_neg (by rw [hq]; decide), List.filter_nil, List.append_nil]
end
/-! ### more rules -/
section
variable {X : Cx} {K : PySem.W.Frag}
theorem ix_tupK (hK : X.K = K := by rfl) : IxR X (rIxT K) := hK ▸ ix_tup
def rLenLK (K : PySem.W.Frag) : List V → Hp → VK → Prop := fun xs H Q => ∃ (p : Addr) (vs : List V) (n : Nat), xs = [.ref p] ∧ SqL K H p vs ∧ vs.length = n ∧ Q (.int (n : Int)) H
theorem call_lenLK (hK : X.K = K := by rfl) : CallR X (.builtin "len") (rLenLK K) := by
  subst hK
  intro pins s σ H xs us Q I r h
  obtain ⟨p, vs, n, rfl, hs, hn, q⟩ := h
  exact call_len_seq pins s σ H _ us Q I r ⟨p, _, rfl, Or.inl hs, by rw [hn]; exact q⟩
def rListLK (K : PySem.W.Frag) : List V → Hp → VK → Prop := fun xs H Q => ∃ (p : Addr) (vs : List V), xs = [.ref p] ∧ SqL K H p vs ∧ ∀ l, H l = none → Q (.ref l) (upd H l (.lst vs))
theorem call_listLK (hK : X.K = K := by rfl) : CallR X (.type "list") (rListLK K) := by
  subst hK
  intro pins s σ H xs us Q I r h
  obtain ⟨p, vs, rfl, hs, q⟩ := h
  exact call_list_of pins s σ H _ us Q I r ⟨p, _, rfl, Or.inl hs, q⟩
theorem cr_anyK (hc : X.calm = true) (hK : X.K = K := by rfl) : CallR X (.builtin "any") (rAny K) := hK ▸ cr_any hc
theorem cr_allK (hc : X.calm = true) (hK : X.K = K := by rfl) : CallR X (.builtin "all") (rAll K) := hK ▸ cr_all hc
theorem pi_tupK {tg l : Expr} {tl : TE} (hl : PE X l tl) (hK : X.K = K := by rfl) : PI X tg l (iTup K tl) := hK ▸ pi_tup hl
theorem pip {op : Operator} {r : R2} (h : OpR X (inplaceOp op) r) : PIp X op r := fun pins s σ H x y v u Q I rx ry q => h pins s σ H x y v u Q I rx ry q
/-- an item at a place from 0 on, by itself (ahead of o[i] op= e) -/
def rIxP (K : PySem.W.Frag) : R2 := fun x y H Q => ∃ (p : Addr) (xs : List V) (k : Int) (v : V), x = .ref p ∧ y = .int k ∧ SqL K H p xs ∧ 0 ≤ k ∧ k < 2 ^ 62 ∧ atI xs k = some v ∧ Q v H
theorem pget_list (hK : X.K = K := by rfl) : PGet X (rIxP K) := by
  subst hK
  intro pins s σ H o i ov iv Q I ro ri h
  obtain ⟨p, xs, k, v, rfl, rfl, hq, h0, h62, ha, q⟩ := h
  cases ro
  obtain ⟨t, rfl⟩ := ri
  obtain ⟨its, r, pl, hz⟩ := I.list hq
  obtain ⟨j, h1, h2, h3, h4, h5⟩ := atI_get ha
  obtain ⟨w, ew, rw'⟩ := r.get h2
  have hj : k.toNat = j := by
    rw [seqIndex_of h0 h5] at h1
    exact Option.some.inj h1
  exact getItem_listL pl.isList h0 (by omega) (by rw [hj]; simpa using ew) ⟨v, H, I, rw', q⟩
theorem tru_map {α : Type} [DecidableEq α] {f : α → V} {xs : List α} : (!decide (xs = [])) = !(xs.map f).isEmpty := by
  cases xs <;> simp
end
end Vx

namespace Vx
open PySem PySem.Spec PyProof.Rows L2
/-! ### objects -/
section
variable {M : List Addr} {H0 G0 G H H' : Hp} {O : List Addr} {p m : Addr} {o : HO}
theorem gen_obj {x dx : Addr} {o1 o2 : HO} (nx : H x = none) (nd : H dx = none) (ne : dx ≠ x) (h : upd (upd H dx o1) x o2 = H') : Same H H' ∧ H' x = some o2 := by
  subst h
  exact ⟨fun b u e => by rw [upd_ne (ne_of_none e nx), upd_ne (ne_of_none e nd)]; exact e, upd_same⟩
theorem sameX_of {m : Addr} (x : SameXs [m] H H') : SameX m H H' := fun b o e n => x b o e (by simpa using n)
theorem g_ne {a b : Addr} (h : G a = some o) (S : Sep M H0 G0 G H O) (hb : b ∈ O) : a ≠ b := fun z => by
  have := (S.ow b hb).1
  rw [← z, h] at this
  cases this
/-- an object whose making has laid some lists -/
theorem Sep.mutnew (S : Sep M H0 G0 G H O) {L : List Addr} (x : SameXs L H H') (hL : ∀ a ∈ L, a ∈ O) (hs : ∀ a ∈ L, H' a ≠ none) (hn : H p = none) (hp : H' p ≠ none) (h0 : H0 p = none) : Sep M H0 G0 G H' (p :: O) := by
  have S1 := S.mut x hL hs
  refine ⟨S1.base, S1.pm, S1.sG, S1.g0, S1.gn, all_cons ⟨S.gfree hn, hp, .inr h0⟩ S1.ow⟩
theorem Sep.init (S : Sep M H0 G0 G H O) (x : SameX m H H') (hm : m ∈ O) (h : H' m = some o) (L : List Addr) (hL : ∀ a ∈ L, H a = none ∧ H' a ≠ none ∧ H0 a = none) : Sep M H0 G0 G H' (L ++ O) := by
  have S1 := S.mut1 x hm h
  refine ⟨S1.base, S1.pm, S1.sG, S1.g0, S1.gn, fun a ha => ?_⟩
  rcases List.mem_append.mp ha with z | z
  · obtain ⟨h1, h2, h3⟩ := hL a z
    exact ⟨S.gfree h1, h2, .inr h3⟩
  · exact S1.ow a z
end
section
variable {P : Program} {w : World} {K : PySem.W.Frag} {mg : Str → Option Value} {base : Heap}
structure MethIn (K : PySem.W.Frag) (C : Addr) (q m : Str) (st : Stmt) (ps : List Str) : Prop where
  ex : ∃ (f : Addr) (fd : FuncData), Fun K m q st f fd ∧ Meth K C m f ∧ Binds K fd ps []
structure PropIn (K : PySem.W.Frag) (C : Addr) (q m : Str) (st : Stmt) (ps : List Str) : Prop where
  ex : ∃ (r f : Addr) (fd : FuncData), Fun K m q st f fd ∧ PropOf K C m r f ∧ Binds K fd ps []
structure InitIn (K : PySem.W.Frag) (mg : Str → Option Value) (C : Addr) (cn q : Str) (st : Stmt) (ps : List Str) : Prop where
  ex : ∃ (f : Addr) (fd : FuncData), Fun K "__init__" q st f fd ∧ Mk K C f ∧ mg cn = some (.ref C) ∧ Binds K fd ps []
structure MetC (P : Program) (w : World) (K : PySem.W.Frag) (mg : Str → Option Value) (base : Heap) (k : Nat) (C : Addr) (m : Str) (sp : Sp) : Prop where
  ex : ∃ (f : Addr) (fd : FuncData) (ps : List Str), Cls K C ∧ Meth K C m f ∧ FnOk P w K mg base CX0 k f fd ps sp ∧ Binds K fd ps []
structure PropC (P : Program) (w : World) (K : PySem.W.Frag) (mg : Str → Option Value) (base : Heap) (k : Nat) (C : Addr) (m : Str) (sp : Sp) : Prop where
  ex : ∃ (q f : Addr) (fd : FuncData) (ps : List Str), Cls K C ∧ PropOf K C m q f ∧ FnOk P w K mg base CX0 k f fd ps sp ∧ Binds K fd ps []
structure MakC (P : Program) (w : World) (K : PySem.W.Frag) (mg : Str → Option Value) (base : Heap) (k : Nat) (cn : Str) (C : Addr) (sp : Sp) : Prop where
  ex : ∃ (f : Addr) (fd : FuncData) (ps : List Str), Mk K C f ∧ FnOk P w K mg base CX0 k f fd ps sp ∧ mg cn = some (.ref C) ∧ Binds K fd ps []
abbrev Body (P : Program) (w : World) (K : PySem.W.Frag) (mg : Str → Option Value) (base : Heap) (x : Str) (st : Stmt) (N : List Str) (k : Nat) (sp : Sp) : Prop :=
  ∀ (f : Addr) (cdv : Value) (A : Around) (outer : List Env) (s : Shared) (H : Hp) (vs : List V) (Q : VK) (E : XK), Room k (A.deeper (envOfC x (defScope st) s.heap.objs.size f cdv)) → sp vs H Q E →
    ∃ t, PSs (cxOf CX0 P w K mg base N x (defScope st) f cdv A outer s H E).nox (defBody st) t ∧ t { nx := fun _ H' => Q .non H', rt := Q } (start N vs) H
theorem MethIn.ok {C : Addr} {q m : Str} {st : Stmt} {N ps : List Str} {k : Nat} {sp : Sp} (D : MethIn K C q m st ps) (c : Cls K C) (S : FnScope N ps (defScope st)) (len : ∀ vs H Q E, sp vs H Q E → vs.length = ps.length)
    (hbody : Body P w K mg base q st N k sp) : MetC P w K mg base (k + 1) C m sp := by
  obtain ⟨f, fd, F, me, b⟩ := D.ex
  exact ⟨f, fd, ps, c, me, F.ok S len (fun cdv A outer s H vs Q E hr h => hbody f cdv A outer s H vs Q E hr h), b⟩
theorem PropIn.ok {C : Addr} {q m : Str} {st : Stmt} {N ps : List Str} {k : Nat} {sp : Sp} (D : PropIn K C q m st ps) (c : Cls K C) (S : FnScope N ps (defScope st)) (len : ∀ vs H Q E, sp vs H Q E → vs.length = ps.length)
    (hbody : Body P w K mg base q st N k sp) : PropC P w K mg base (k + 1) C m sp := by
  obtain ⟨r, f, fd, F, me, b⟩ := D.ex
  exact ⟨r, f, fd, ps, c, me, F.ok S len (fun cdv A outer s H vs Q E hr h => hbody f cdv A outer s H vs Q E hr h), b⟩
theorem InitIn.ok {C : Addr} {cn q : Str} {st : Stmt} {N ps : List Str} {k : Nat} {sp : Sp} (D : InitIn K mg C cn q st ps) (S : FnScope N ps (defScope st)) (len : ∀ vs H Q E, sp vs H Q E → vs.length = ps.length)
    (hbody : Body P w K mg base q st N k sp) : MakC P w K mg base (k + 1) cn C sp := by
  obtain ⟨f, fd, F, me, hm, b⟩ := D.ex
  exact ⟨f, fd, ps, me, F.ok S len (fun cdv A outer s H vs Q E hr h => hbody f cdv A outer s H vs Q E hr h), hm, b⟩
end
section
variable {X : Cx} {k j : Nat} {C : Addr} {x m : Str} {sp : Sp} {p pos apos : Pos} {e o : Expr} {es : List Expr} {ta : TE} {t : TA}
theorem vx_call0 (c : Cal X.prog X.w X.K X.mg X.base k x sp) (hr : Room j X.A) (hk : k ≤ j) (hg : Gl X x) (hdb : (x == ("__debug__" : Str)) = false := by decide) : PE X (.Call (.Name x p) [] [] pos) (tCall sp [] E0 tNil) := by
  obtain ⟨f, fd, ps, F, hm, kp, b⟩ := c.ex
  exact pe_call0 F (hr.mono hk) hg hm kp b .nil pass0 hdb
theorem vx_make (c : MakC X.prog X.w X.K X.mg X.base k x C sp) (hr : Room j X.A) (hk : k + 1 ≤ j) (hg : Gl X x) (ha : PA X (e :: es) t)
    (hdb : (x == ("__debug__" : Str)) = false := by decide) (he : starEach (e :: es) X.env = (false, eval e X.env) :: starEach es X.env := by rfl) (hpl : (backTo pos (starEach es X.env)).any (·.1) = false := by rfl) :
    PE X (.Call (.Name x p) (e :: es) [] pos) (tMake C sp [] E0 t) := by
  obtain ⟨f, fd, ps, M, F, hm, b⟩ := c.ex
  exact pe_make M F (hr.mono hk) hg hm b .nil pass0 ha hdb he hpl
theorem vx_make0 (c : MakC X.prog X.w X.K X.mg X.base k x C sp) (hr : Room j X.A) (hk : k + 1 ≤ j) (hg : Gl X x) (hdb : (x == ("__debug__" : Str)) = false := by decide) :
    PE X (.Call (.Name x p) [] [] pos) (tMake C sp [] E0 tNil) := by
  obtain ⟨f, fd, ps, M, F, hm, b⟩ := c.ex
  exact pe_make0 M F (hr.mono hk) hg hm b .nil pass0 hdb
theorem vx_meth {pl : Sem Bool} (c : MetC X.prog X.w X.K X.mg X.base k C m sp) (hr : Room j X.A) (hk : k ≤ j) (he : PE X o ta) (ha : PA X (e :: es) t)
    (hst : starEach (e :: es) X.env = (false, eval e X.env) :: starEach es X.env := by rfl) (hpl : (backTo pos (starEach es X.env)).any (·.1) = false := by rfl)
    (ht : eval (.Call (.Attribute o m apos) (e :: es) [] pos) X.env = (do
      let ov ← eval o X.env
      standAt apos.atName
      let (f, first) ← holding [ov] (getMethod ov m pl)
      callWith pos f first (backTo pos (starEach (e :: es) X.env)) (backToKw pos (keywordEach [] X.env))) := by rfl) :
    PE X (.Call (.Attribute o m apos) (e :: es) [] pos) (tMeth C m sp [] E0 ta t) := by
  obtain ⟨f, fd, ps, hc, hm, F, b⟩ := c.ex
  exact pe_meth he hc hm F (hr.mono hk) b .nil pass0 ha hst hpl ht
theorem vx_meth0 {pl : Sem Bool} (c : MetC X.prog X.w X.K X.mg X.base k C m sp) (hr : Room j X.A) (hk : k ≤ j) (he : PE X o ta)
    (ht : eval (.Call (.Attribute o m apos) [] [] pos) X.env = (do
      let ov ← eval o X.env
      standAt apos.atName
      let (f, first) ← holding [ov] (getMethod ov m pl)
      callWith pos f first (backTo pos (starEach [] X.env)) (backToKw pos (keywordEach [] X.env))) := by rfl) :
    PE X (.Call (.Attribute o m apos) [] [] pos) (tMeth C m sp [] E0 ta tNil) := by
  obtain ⟨f, fd, ps, hc, hm, F, b⟩ := c.ex
  exact pe_meth0 he hc hm F (hr.mono hk) b .nil pass0 ht
theorem vx_prop (c : PropC X.prog X.w X.K X.mg X.base k C m sp) (hr : Room j X.A) (hk : k + 1 ≤ j) (he : PE X o ta) (hab : attributeBase o m X.env (eval o X.env) = eval o X.env) : PE X (.Attribute o m pos) (tProp C sp [] E0 ta) := by
  obtain ⟨q, f, fd, ps, hc, hp, F, b⟩ := c.ex
  exact pe_prop he hc hp F (hr.mono hk) b .nil pass0 hab
end
theorem iteBNT {b : Bool} {A B : Prop} (h : b = false) (k : A) : if (!b) = true then A else B := by rw [h]; exact iteT k
theorem iteNN {b : Bool} {A B : Prop} (h : if b = true then A else B) : if (!!b) = true then A else B := by rw [Bool.not_not]; exact h
theorem iteBNF {b : Bool} {A B : Prop} (h : b = true) (k : B) : if (!b) = true then A else B := by rw [h]; exact iteF k
theorem shl_side {i j : Int} (h0 : 0 ≤ j) (h1 : j ≤ 4096) (h2 : -(2 ^ 4096) < i) (h3 : i < 2 ^ 4096) : CShl i j := by
  obtain ⟨k, rfl⟩ := Int.eq_ofNat_of_zero_le h0
  exact shl_ok (n := 4096) (by omega) (by omega)
end Vx

namespace Vx
open PySem PySem.Spec PyProof.Rows L2
section
variable {X : Cx} {K : PySem.W.Frag}
theorem fldK {e : Expr} {f : Str} {pos : Pos} {ta : TE} (he : PE X e ta) (hb : attributeBase e f X.env (eval e X.env) = eval e X.env := by rfl) (hK : X.K = K := by rfl) : PE X (.Attribute e f pos) (tFld K ta f) := hK ▸ pe_fld he hb
theorem pg_tupK {es : List Expr} {k : Nat} {t : TGs} {n : Nat} {pos : Pos} (h : PGs X es t) (hc : X.calm = true := by rfl)
    (hn : (assignEach es X.env).length = n := by rfl) (hst : (assignEach es X.env).findIdx? (·.1) = none := by rfl) (hK : X.K = K := by rfl) : PG X (.Tuple es k pos) (gTup K n t) := hK ▸ pg_tup hc h hn hst
end
end Vx

namespace Vx
open PySem PySem.Spec PyProof.Rows L2
section
variable {α β : Type} {f : α → PyData} {g : β → PyData} {fv : α → V} {gv : β → V} {G : Hp} {vs ws : List V} {xs : List α} {ys : List β}
theorem big1 {n : Nat} (h : n ≤ 1000000) : n ≤ sizeLine := smallE h
theorem cat_len (a : RpAll G vs (xs.map f)) (b : RpAll G ws (ys.map g)) (h : xs.length + ys.length ≤ 1000000) : vs.length + ws.length ≤ sizeLine := by
  rw [a.len, b.len, List.length_map, List.length_map]; exact smallE h
theorem cat_lenM (h : xs.length + ys.length ≤ 1000000) : (xs.map fv).length + (ys.map gv).length ≤ sizeLine := by
  rw [List.length_map, List.length_map]; exact smallE h
theorem rep_len {k : Nat} (a : RpAll G vs (xs.map f)) (h : xs.length * k ≤ 1000000) : vs.length * k ≤ sizeLine := by
  rw [a.len, List.length_map]; exact smallE h
theorem rep_lenM {k : Nat} (h : xs.length * k ≤ 1000000) : (xs.map fv).length * k ≤ sizeLine := by
  rw [List.length_map]; exact smallE h
theorem app_len (a : RpAll G vs (xs.map f)) (h : xs.length ≤ 1000000) : vs.length < sizeLine := by
  rw [a.len, List.length_map]; exact small h
theorem app_lenM (h : xs.length ≤ 1000000) : (xs.map fv).length < sizeLine := by
  rw [List.length_map]; exact small h
theorem cutL_len {α : Type} (xs : List α) (lo hi : Option Int) : (cutL xs lo hi).length ≤ xs.length := by
  unfold cutL
  rw [List.length_take, List.length_drop]
  omega
theorem repL_len {α : Type} (xs : List α) (k : Int) : (repL xs k).length = k.toNat * xs.length := by
  unfold repL
  simp
end
end Vx
/-! # promises of defs that know that nothing is being shown (so that repr may be called) -/
namespace Vx
open PySem PySem.Spec PyProof.Rows L2
structure RoomG (k : Nat) (A : Around) : Prop extends Room k A where
  gd : A.guards = some []
theorem RoomG.low {j k : Nat} {A : Around} (r : RoomG k A) (h : j ≤ k) : RoomG j A := ⟨r.toRoom.mono h, r.gd⟩
theorem RoomG.one {k : Nat} {A : Around} (r : RoomG (k + 1) A) : RoomG k A.in1 := ⟨r.toRoom.in1, r.gd⟩
theorem make_gd {A : Around} (C : Addr) (us : List Value) (kw : List (Str × Value)) (h : A.guards = some []) : (A.under (.builtin "type.__call__" ⟨.ref C :: us, kw⟩)).guards = some [] := by
  obtain ⟨hd, d, fr, gs, u⟩ := A
  subst h
  simp [Around.under, Code.guards, Code.isGuard, guardIds, pushGuards]
theorem RoomG.made {k : Nat} {A : Around} (r : RoomG (k + 1) A) (C : Addr) (us : List Value) (kw : List (Str × Value)) : RoomG k (A.under (.builtin "type.__call__" ⟨.ref C :: us, kw⟩)) := ⟨r.toRoom.make C us kw, make_gd C us kw r.gd⟩
structure FnG (P : Program) (w : World) (K : PySem.W.Frag) (mg : Str → Option Value) (base : Heap) (cx : CXT) (k : Nat) (f : Addr) (fd : FuncData) (ps : List Str) (sp : Sp) : Prop where
  len : ∀ vs H Q E, sp vs H Q E → vs.length = ps.length
  run : ∀ (A : Around) (outer : List Env) (s : Shared) (H : Hp) (args : Args) (us : List Value) (vs : List V) (Q : VK) (E : XK), RoomG k A → Env0 P w K mg base A outer s H → BindsTo s fd args (ps.zip us) → Vals vs us → sp vs H Q E → codeAny (model P w) A (.call (.ref f) args) (CR cx outer P w H s Q E) s
section
variable {P : Program} {w : World} {K : PySem.W.Frag} {mg : Str → Option Value} {base : Heap} {cx : CXT} {j k : Nat} {f : Addr} {fd : FuncData} {ps : List Str} {sp sp' : Sp}
theorem FnG.imp (F : FnG P w K mg base cx k f fd ps sp) (h : ∀ vs H Q E, sp' vs H Q E → sp vs H Q E) : FnG P w K mg base cx k f fd ps sp' := ⟨fun vs H Q E q => F.len vs H Q E (h vs H Q E q), fun A o s H a us vs Q E r e b v q => F.run A o s H a us vs Q E r e b v (h vs H Q E q)⟩
/-- the body's promise is the def's -/
theorem FnG.body {x qual : Str} {params : Arguments} {body : List Stmt} {scope : Scope} {dvs : List V} {kws : List (Str × V)} {N : List Str} (F : FunD K x qual params body scope dvs kws f fd) (S : FnScope N ps scope) (len : ∀ vs H Q E, sp vs H Q E → vs.length = ps.length)
    (hb : ∀ (cdv : Value) (A : Around) (outer : List Env) (s : Shared) (H : Hp) (vs : List V) (Q : VK) (E : XK), RoomG k (A.deeper (envOfC qual scope s.heap.objs.size f cdv)) → sp vs H Q E →
      ∃ t, PSs (cxOf cx P w K mg base N qual scope f cdv A outer s H E) body t ∧ t { nx := fun _ H' => Q .non H', rt := Q } (start N vs) H) : FnG P w K mg base cx (k + 1) f fd ps sp := by
  obtain ⟨oc, od, dV, kV, doc, pm, an, cdv, ct, osl, rfl, lk, code, _, _⟩ := F.ex
  constructor
  · exact len
  · intro A outer s H args us vs Q E room env binds vals prom
    have nvs := len vs H Q E prom
    have kin : K.In s.heap := env.mod.kin.keeps fun b o q => (env.bs b o q).1
    have nolim : s.heap.NoLimit := env.mod.nolimit.keeps fun b o q => (env.bs b o q).1
    have kinds : ∀ q ∈ ps.zip us, scope.names.lookup q.1 = some .local ∨ (scope.names.lookup q.1 = some .cell ∧ ((cellsFrom (s.heap.objs.size + 1) scope.names []).lookup q.1).isSome = true) := by
      rintro ⟨n, v⟩ hq
      cases S.par n (List.of_mem_zip hq).1 with
      | inl z => exact .inl z
      | inr z => exact .inr ⟨z, PySem.W.cellsFrom_some _ _ _ (.inl z)⟩
    refine codeAny_call_function room.toRoom.depth (kin _ _ lk) rfl S.co S.gen rfl (PySem.W.codeRec_of kin code) (binds _ _ _ _ ?_)
    refine wpAny_newFunctionEnv_cells S.kind kinds ?_
    rintro _ rfl s1 made
    refine ⟨nolim.keeps made.toInCall.keep, codeAny_func ?_⟩
    obtain ⟨t, pss, start_⟩ := hb cdv A outer s H vs Q E ⟨room.toRoom.deeper _, room.gd⟩ prom
    have inv := inv_start (CX := cx) (E := E) S room.hd env nvs vals made
    have close : ∀ {τ : L2.St} {H2 : Hp} {v : V} {u : Value} {s2 : Shared}, Inv (cxOf cx P w K mg base N qual scope f cdv A outer s H E) [] τ H2 s2 → RelV v u → Q v H2 → CE outer P w H s Q u s2 := fun inv2 rel q => ⟨_, _, inv2.os, inv2.bare, inv2.base, inv2.hok, rel, q⟩
    refine wpAny_mono (pss.run [] s1 (start N vs) H _ inv start_) ?_ fun _ _ z => z
    intro flow s2 out
    cases flow with
    | next =>
      obtain ⟨τ, H2, inv2, q⟩ := out
      exact close (v := .non) (u := .none) inv2 rfl q
    | ret u =>
      obtain ⟨v, τ, H2, inv2, rel, q⟩ := out
      exact close inv2 rel q
    | brk =>
      obtain ⟨_, _, _, q⟩ := out
      exact q.elim
    | cont =>
      obtain ⟨_, _, _, q⟩ := out
      exact q.elim
/-- the same of a body that nothing leaves -/
theorem FnG.bodyN {x qual : Str} {params : Arguments} {body : List Stmt} {scope : Scope} {dvs : List V} {kws : List (Str × V)} {N : List Str} (F : FunD K x qual params body scope dvs kws f fd) (S : FnScope N ps scope) (len : ∀ vs H Q E, sp vs H Q E → vs.length = ps.length)
    (hb : ∀ (cdv : Value) (A : Around) (outer : List Env) (s : Shared) (H : Hp) (vs : List V) (Q : VK) (E : XK), RoomG k (A.deeper (envOfC qual scope s.heap.objs.size f cdv)) → sp vs H Q E →
      ∃ t, PSs (cxOf CX0 P w K mg base N qual scope f cdv A outer s H E).nox body t ∧ t { nx := fun _ H' => Q .non H', rt := Q } (start N vs) H) : FnG P w K mg base CX0 (k + 1) f fd ps sp :=
  FnG.body F S len fun cdv A outer s H vs Q E r p => by
    obtain ⟨t, h, q⟩ := hb cdv A outer s H vs Q E r p
    exact ⟨t, h.nox, q⟩
end
/-- where a law's call begins: an abstract heap that tells the script at most -/
theorem law_start {P : Program} {w : World} {K : PySem.W.Frag} {mg mb : Str → Option Value} {a : Addr} {s : Shared} {vs : List Value} {ns : List Int} (kin : K.In s.heap) (top : s.heap.Ns mainGlobals mg) (blt : s.heap.Ns builtinsNs mb) (boot : ∀ y : Str, y ≠ "__name__" → mb y = bootBuiltins y)
    (lim : s.heap.NoLimit) (gens : s.gens = #[]) (script : s.heap.get? a = some { cls := .type "list", data := .seq vs.toArray }) (whole : IntsAre vs ns) (short : ns.length ≤ sizeLine) :
    ∃ (H : Hp) (base : Heap), SqL K H a (ns.map V.int) ∧ K.In base ∧ base.Ns mainGlobals mg ∧ Env0 P w K mg base callerA [] s H ∧
      ∀ (Z : V → Prop) (u : Value) (s2 : Shared), CE [] P w H s (fun v _ => Z v) u s2 → (∃ v, RelV v u ∧ Z v) ∧ OldK s.heap s2.heap ∧ s2.os = s.os ∧ AllBare s2.gens := by
  have rel := vals_ints whole
  have lenV := whole.length
  -- any H that tells no more than the script, and that only where the written part does not hold it, will do
  have fits : ∀ H : Hp, (∀ b, H b = none ∨ ∃ o xs, H b = some (.frz o (.lst xs))) → SqL K H a (ns.map V.int) → HOk P w H s.heap → (∀ b, b ≠ a → H b = none) → (∀ o, K.lookup a = some o → H a = none) →
      ∃ (H : Hp) (base : Heap), SqL K H a (ns.map V.int) ∧ K.In base ∧ base.Ns mainGlobals mg ∧ Env0 P w K mg base callerA [] s H ∧
        ∀ (Z : V → Prop) (u : Value) (s2 : Shared), CE [] P w H s (fun v _ => Z v) u s2 → (∃ v, RelV v u ∧ Z v) ∧ OldK s.heap s2.heap ∧ s2.os = s.os ∧ AllBare s2.gens := by
    intro H only seq ok else_ apart
    have dictFree : ∀ (b : Addr) (o : Obj) (es : Array DictEntry) (n : Nat), s.heap.get? b = some o → o.data = .dict es n → H b = none := by
      intro b o es n e d
      by_cases z : b = a
      · subst z
        rw [script] at e
        injection e with e
        subst e
        cases d
      · exact else_ b z
    have nsOf : ∀ {b : Addr} {m : Str → Option Value}, s.heap.Ns b m → (hidT s.heap H).Ns b m := by
      rintro b m ⟨o, es, n, e, d, r⟩
      exact ⟨o, es, n, hidT_get e (dictFree b o es n e d), d, r⟩
    have kinB : K.In (hidT s.heap H) := by
      intro b o e
      refine hidT_get (kin b o e) ?_
      by_cases z : b = a
      · subst z
        exact apart o e
      · exact else_ b z
    obtain ⟨mc, lim1, lim2⟩ := lim
    refine ⟨H, hidT s.heap H, seq, kinB, nsOf top, ⟨rfl, ⟨kinB, nsOf top, ⟨mb, nsOf blt, boot⟩, mc, nsOf lim1, lim2⟩, fun b o e => of_hidT e, Nat.le_of_eq (hidT_size _ _), trivial, fun b hb => (nomatch (show b ∈ ([] : List Addr) from hb)), ok, .of_eq gens⟩, ?_⟩
    rintro Z u s2 ⟨v, H2, os, bare, un, ok2, r, z⟩
    refine ⟨⟨v, r, z⟩, OldK.of_keep fun b o e => ?_, os, bare⟩
    rcases only b with n | ⟨o1, xs, n⟩
    · exact un.keep b o e n (fun y => nomatch (show b ∈ ([] : List Addr) from y)) (fun y => nomatch y)
    · obtain ⟨e1, _⟩ := ok b _ n
      obtain ⟨e2, _⟩ := ok2 b _ (un.frzs b o1 _ n)
      rw [e] at e1
      injection e1 with e1
      subst e1
      exact e2
  cases kl : K.lookup a with
  | some o =>
    have e := kin a o kl
    rw [script] at e
    injection e with e
    subst e
    exact fits (fun _ => none) (fun _ => .inl rfl) (.inr ⟨_, vs.toArray, _, kl, rfl, rfl, rfl, by rw [List.size_toArray, lenV]; exact short, by simpa using rel⟩) (fun _ _ z => nomatch z) (fun _ _ => rfl) fun _ _ => rfl
  | none =>
    refine fits (fun b => if b = a then some (.frz { cls := .type "list", data := .seq vs.toArray } (.lst (ns.map V.int))) else none) ?_ (.inl (.inr ⟨_, if_pos rfl⟩)) ?_ (fun b n => if_neg n) fun o z => ?_
    · intro b
      by_cases z : b = a
      · exact .inr ⟨_, _, if_pos z⟩
      · exact .inl (if_neg z)
    · intro b u q
      by_cases z : b = a
      · subst z
        have q := (if_pos rfl).symm.trans q
        injection q with q
        subst q
        exact ⟨script, by rw [List.length_map]; exact short, vs, _, rel, script⟩
      · have q := (if_neg z).symm.trans q
        cases q
    · rw [kl] at z
      cases z
/-- the goal that the head leaves, from the law's promise; the script's numbers have at most 2 ^ 20 bits -/
theorem walkG {l : PySem.W.OpenLaw} {n k : Nat} {q : Program} {loose : List Str} {XP : (Str → Option Value) → Heap → Prop} {YP : World → Heap → Prop} {d : DefRec} {K : Params → PySem.W.Frag} {x : Str} (hn : l.most = some n) (hn2 : n ≤ sizeLine) (hdf : d.params.defaults = []) (room : Room k callerA)
    (hY : ∀ (w : World) (h : Heap), YP w h → (K w.params).In h)
    (F : ∀ (w : World) (mg : Str → Option Value) (fa : Addr) (h : Heap), (K w.params).In h → h.Ns mainGlobals mg → mg d.name = some (.ref fa) →
      ∃ fd : FuncData, (∀ (s : Shared) (u : Value), BindsTo s fd ⟨[u], []⟩ [(x, u)]) ∧ ∀ base : Heap, (K w.params).In base → base.Ns mainGlobals mg → FnG l.prog w (K w.params) mg base CX0 k fa fd [x] (fun vs H Q _ => ∃ (a : Addr) (ns : List Int), vs = [.ref a] ∧ SqL (K w.params) H a (ns.map V.int) ∧ ns.length ≤ n ∧ ∀ H', Q (.bl true) H')) :
    PySem.W.WalkO q loose XP YP l.row.toRowW d [] (fun f vs => PySem.call f vs) := by
  refine Att.attach_call hn hdf ?_
  intro w s₀ s₁ mg mb fa o pm cd doc a vs ns G Y _ _ _ hmg script whole short gens
  have kin := hY w _ Y
  obtain ⟨fd, bind, prom⟩ := F w mg fa _ kin G.T.g hmg
  obtain ⟨H, base, seq, kinB, nsB, env, fin⟩ := law_start (P := l.prog) (w := w) kin G.T.g G.T.b G.T.builtins G.T.nolimit gens script whole (Nat.le_trans short hn2)
  refine codeAny_mono ((prom base kinB nsB).run callerA [] s₁ H ⟨[.ref a], []⟩ [.ref a] [.ref a] (fun v _ => v = .bl true) (fun _ _ _ => False) ⟨room, rfl⟩ env (bind s₁ (.ref a)) (.cons rfl .nil) ⟨a, ns, rfl, seq, short, fun _ => rfl⟩) ?_
  intro r s2 out
  cases r with
  | error e => exact out.elim
  | ok flow =>
    cases flow with
    | ret u =>
      obtain ⟨⟨v, rv, z⟩, h1, h2, h3⟩ := fin (fun v => v = .bl true) u s2 out
      subst z
      obtain rfl : u = Value.bool true := rv
      exact ⟨rfl, h1, h2, h3⟩
    | next => exact out.elim
    | brk => exact out.elim
    | cont => exact out.elim
end Vx
/-! # third part: what a def computes, as a plain function with refusals -/
namespace Vx
open PySem PySem.Spec PyProof.Rows L2
inductive Rx (α : Type) where
  | ok (a : α)
  | er (e : Nat)
  | bad
def Rx.bind {α β : Type} (m : Rx α) (f : α → Rx β) : Rx β :=
  match m with
  | .ok a => f a
  | .er e => .er e
  | .bad => .bad
/-- what is wanted of an outcome -/
@[irreducible] def cW {α : Type} (m : Rx α) (K : α → Prop) (E : Nat → Prop) : Prop :=
  match m with
  | .ok a => K a
  | .er e => E e
  | .bad => False
def grd {α : Type} (p : Prop) [Decidable p] (m : Rx α) : Rx α := if p then m else .bad
/-- within a comprehension nothing may be raised -/
def noEr {α : Type} (m : Rx α) : Rx α :=
  match m with
  | .ok a => .ok a
  | _ => .bad
/-- what the clause does not name may not come -/
def tryR {α β : Type} (m : Rx α) (cs : List Nat) (f : α → Rx β) (h : Nat → Rx β) : Rx β :=
  match m with
  | .ok a => f a
  | .er e => if e ∈ cs then h e else .bad
  | .bad => .bad
def bnd {α β : Type} (a : α) (f : α → Rx β) : Rx β := f a
inductive Lp (σ ρ : Type) where
  | go (s : σ)
  | bk (s : σ)
  | rt (r : ρ)
def Lp.aft {σ ρ τ : Type} (l : Lp σ ρ) (kr : ρ → Rx τ) (k : σ → Rx τ) : Rx τ :=
  match l with
  | .go s => k s
  | .bk s => k s
  | .rt r => kr r
def forS {σ α : Type} : List α → σ → (σ → α → Rx σ) → Rx σ
  | [], s, _ => .ok s
  | x :: r, s, f => (f s x).bind fun s' => forS r s' f
def forR {σ α ρ : Type} : List α → σ → (σ → α → Rx (Lp σ ρ)) → Rx (Lp σ ρ)
  | [], s, _ => .ok (.go s)
  | x :: r, s, f => (f s x).bind fun l =>
    match l with
    | .go s' => forR r s' f
    | .bk s' => .ok (.go s')
    | .rt v => .ok (.rt v)
def whileR {σ ρ : Type} : Nat → σ → (σ → Rx (Lp σ ρ)) → Rx (Lp σ ρ)
  | 0, _, _ => .bad
  | n + 1, s, f => (f s).bind fun l =>
    match l with
    | .go s' => whileR n s' f
    | .bk s' => .ok (.go s')
    | .rt v => .ok (.rt v)
def mapA {α β : Type} : List α → List β → (α → Rx β) → Rx (List β)
  | [], acc, _ => .ok acc
  | x :: r, acc, f => grd (acc.length ≤ 1000000) ((f x).bind fun y => mapA r (acc ++ [y]) f)
def mapF {α β : Type} : List α → List β → (α → Rx (Option β)) → Rx (List β)
  | [], acc, _ => .ok acc
  | x :: r, acc, f => grd (acc.length ≤ 1000000) ((f x).bind fun y =>
    match y with
    | some z => mapF r (acc ++ [z]) f
    | none => mapF r acc f)
section
variable {α β γ σ ρ τ : Type} {K : α → Prop} {E : Nat → Prop}
theorem cW_ok {a : α} (h : cW (.ok a) K E) : K a := by
  unfold cW at h
  exact h
theorem cW_er {e : Nat} (h : cW (.er e : Rx α) K E) : E e := by
  unfold cW at h
  exact h
theorem cW_bad {C : Prop} (h : cW (.bad : Rx α) K E) : C := by
  unfold cW at h
  exact h.elim
theorem cW_mk {a : α} (h : K a) : cW (.ok a) K E := by
  unfold cW
  exact h
theorem cW_mkE {e : Nat} (h : E e) : cW (.er e : Rx α) K E := by
  unfold cW
  exact h
theorem cW_gen {m : Rx α} (h : cW m K E) : ∃ (K' : α → Prop) (E' : Nat → Prop), (∀ v, K' v → K v) ∧ (∀ e, E' e → E e) ∧ cW m K' E' := ⟨K, E, fun _ x => x, fun _ x => x, h⟩
theorem cW_grd {p : Prop} {dp : Decidable p} {m : Rx α} (h : cW (grd p m) K E) : p ∧ cW m K E := by
  unfold grd at h
  split at h
  · exact ⟨‹p›, h⟩
  · exact cW_bad h
theorem cW_pos {p : Prop} {dp : Decidable p} {a b : Rx α} (c : p) (h : cW (if p then a else b) K E) : cW a K E := by rwa [if_pos c] at h
theorem cW_neg {p : Prop} {dp : Decidable p} {a b : Rx α} (c : ¬ p) (h : cW (if p then a else b) K E) : cW b K E := by rwa [if_neg c] at h
theorem cW_call {m : Rx β} {f : β → Rx α} {K2 : β → Prop} {E2 : Nat → Prop} (h : cW (m.bind f) K E) (ho : ∀ v, cW (f v) K E → K2 v) (he : ∀ e, E e → E2 e) : cW m K2 E2 := by
  cases m with
  | ok a => exact cW_mk (ho a h)
  | er e => exact cW_mkE (he e (cW_er (α := α) h))
  | bad => exact cW_bad (α := α) h
theorem cW_push {m : Rx β} {f : β → Rx α} (h : cW (m.bind f) K E) : ∃ K2 : β → Prop, (∀ v, K2 v → cW (f v) K E) ∧ cW m K2 E := ⟨fun v => cW (f v) K E, fun _ x => x, cW_call h (fun _ x => x) fun _ x => x⟩
theorem cW_name {m : Rx α} (h : cW m K E) : ∃ K' : α → Prop, (∀ v, K' v → K v) ∧ cW m K' E := ⟨K, fun _ x => x, h⟩
theorem cW_noEr {m : Rx α} (h : cW (noEr m) K E) : cW m K (fun _ => False) := by
  cases m with
  | ok a => exact cW_mk (cW_ok (α := α) h)
  | er e => exact cW_bad (α := α) h
  | bad => exact cW_bad (α := α) h
theorem cW_try {m : Rx β} {cs : List Nat} {f : β → Rx α} {g : Nat → Rx α} {K2 : β → Prop} {E2 : Nat → Prop} (h : cW (tryR m cs f g) K E) (ho : ∀ v, cW (f v) K E → K2 v) (hc : ∀ e, e ∈ cs → cW (g e) K E → E2 e) : cW m K2 E2 := by
  cases m with
  | ok a => exact cW_mk (ho a h)
  | er e =>
    have h2 : cW (if e ∈ cs then g e else .bad) K E := h
    by_cases q : e ∈ cs
    · exact cW_mkE (hc e q (cW_pos q h2))
    · exact cW_bad (cW_neg q h2)
  | bad => exact cW_bad (α := α) h
theorem cW_bnd {a : β} {f : β → Rx α} (h : cW (bnd a f) K E) : cW (f a) K E := h
theorem cW_negB {b : Bool} {x y : Rx α} (c : b = false) (h : cW (if b = true then x else y) K E) : cW y K E := cW_neg (by rw [c]; decide) h
theorem cW_forS {xs : List β} {i : Nat} {x : β} {s : α} {f : α → β → Rx α} (hx : xs[i]? = some x) (h : cW (forS (xs.drop i) s f) K E) : cW (f s x) (fun s' => cW (forS (xs.drop (i + 1)) s' f) K E) E := by
  rw [List.drop_eq_getElem?_toList_append, hx] at h
  exact cW_call h (fun _ z => z) fun _ z => z
theorem cW_forS0 {xs : List β} {n : Nat} {s : α} {f : α → β → Rx α} (hn : n = xs.length) (h : cW (forS (xs.drop n) s f) K E) : K s := by
  subst hn
  rw [List.drop_length] at h
  exact cW_ok h
theorem cW_forR {K : Lp σ ρ → Prop} {xs : List β} {i : Nat} {x : β} {s : σ} {f : σ → β → Rx (Lp σ ρ)} (hx : xs[i]? = some x) (h : cW (forR (xs.drop i) s f) K E) :
    cW (f s x) (fun l => match l with | .go s' => cW (forR (xs.drop (i + 1)) s' f) K E | .bk s' => K (.go s') | .rt v => K (.rt v)) E := by
  rw [List.drop_eq_getElem?_toList_append, hx] at h
  refine cW_call h (fun l z => ?_) fun _ z => z
  cases l with
  | go s' => exact z
  | bk s' => exact cW_ok (K := K) (a := .go s') z
  | rt v => exact cW_ok (K := K) (a := .rt v) z
theorem cW_forR0 {K : Lp σ ρ → Prop} {xs : List β} {n : Nat} {s : σ} {f : σ → β → Rx (Lp σ ρ)} (hn : n = xs.length) (h : cW (forR (xs.drop n) s f) K E) : K (.go s) := by
  subst hn
  rw [List.drop_length] at h
  exact cW_ok h
theorem cW_whileR {K : Lp σ ρ → Prop} {m : Nat} {s : σ} {f : σ → Rx (Lp σ ρ)} (h : cW (whileR m s f) K E) :
    ∃ n, m = n + 1 ∧ cW (f s) (fun l => match l with | .go s' => cW (whileR n s' f) K E | .bk s' => K (.go s') | .rt v => K (.rt v)) E := by
  cases m with
  | zero => exact cW_bad h
  | succ n =>
    refine ⟨n, rfl, cW_call h (fun l z => ?_) fun _ z => z⟩
    cases l with
    | go s' => exact z
    | bk s' => exact cW_ok (K := K) (a := .go s') z
    | rt v => exact cW_ok (K := K) (a := .rt v) z
theorem cW_mapA {K : List α → Prop} {xs : List β} {acc : List α} {i : Nat} {x : β} {f : β → Rx α} (hx : xs[i]? = some x) (h : cW (mapA (xs.drop i) acc f) K E) :
    acc.length ≤ 1000000 ∧ cW (f x) (fun y => cW (mapA (xs.drop (i + 1)) (acc ++ [y]) f) K E) E := by
  rw [List.drop_eq_getElem?_toList_append, hx] at h
  obtain ⟨z, h⟩ := cW_grd h
  exact ⟨z, cW_call h (fun _ z => z) fun _ z => z⟩
theorem cW_mapA0 {K : List α → Prop} {xs : List β} {acc : List α} {n : Nat} {f : β → Rx α} (hn : n = xs.length) (h : cW (mapA (xs.drop n) acc f) K E) : K acc := by
  subst hn
  rw [List.drop_length] at h
  exact cW_ok h
theorem cW_mapF {K : List α → Prop} {xs : List β} {acc : List α} {i : Nat} {x : β} {f : β → Rx (Option α)} (hx : xs[i]? = some x) (h : cW (mapF (xs.drop i) acc f) K E) :
    acc.length ≤ 1000000 ∧ cW (f x) (fun y => match y with | some z => cW (mapF (xs.drop (i + 1)) (acc ++ [z]) f) K E | none => cW (mapF (xs.drop (i + 1)) acc f) K E) E := by
  rw [List.drop_eq_getElem?_toList_append, hx] at h
  obtain ⟨z, h⟩ := cW_grd h
  refine ⟨z, cW_call h (fun y z => ?_) fun _ z => z⟩
  cases y with
  | none => exact z
  | some w => exact z
theorem cW_mapF0 {K : List α → Prop} {xs : List β} {acc : List α} {n : Nat} {f : β → Rx (Option α)} (hn : n = xs.length) (h : cW (mapF (xs.drop n) acc f) K E) : K acc := by
  subst hn
  rw [List.drop_length] at h
  exact cW_ok h
end
/-- the numbers of a range -/
def rng (lo : Int) (n : Nat) : List Int := (List.range n).map fun (j : Nat) => lo + (j : Int)
theorem rng_get {lo : Int} {n i : Nat} (h : i < n) : (rng lo n)[i]? = some (lo + (i : Int)) := by
  unfold rng
  rw [List.getElem?_map, List.getElem?_range h] <;> rfl
theorem rng_len (lo : Int) (n : Nat) : (rng lo n).length = n := by
  unfold rng
  rw [List.length_map, List.length_range]

def rngD (lo : Int) (n : Nat) : List Int := (List.range n).map fun (j : Nat) => lo + (j : Int) * (-1)
theorem rngD_get {lo : Int} {n i : Nat} (h : i < n) : (rngD lo n)[i]? = some (lo + (i : Int) * (-1)) := by
  unfold rngD
  rw [List.getElem?_map, List.getElem?_range h] <;> rfl
theorem rngD_len (lo : Int) (n : Nat) : (rngD lo n).length = n := by
  unfold rngD
  rw [List.length_map, List.length_range]

/-! ### calls that may raise -/
/-- what a call with n values and keywords ks gives the parameters -/
structure Bnd (K : PySem.W.Frag) (fd : FuncData) (ps : List Str) (n : Nat) (ks : List Str) (g : List V → List V → List V) : Prop where
  to : ∀ (s : Shared) (us ws : List Value) (vs zs : List V), K.In s.heap → vs.length = n → zs.length = ks.length → Vals vs us → Vals zs ws → ∃ vv : List Value, BindsTo s fd ⟨us, ks.zip ws⟩ (ps.zip vv) ∧ Vals (g vs zs) vv
theorem Bnd.of_kbn {K : PySem.W.Frag} {fd : FuncData} {ps ks : List Str} {n : Nat} {g : List Value → List Value → List Value} {gV : List V → List V → List V} (b : KBn K fd ps n ks g gV) : Bnd K fd ps n ks gV :=
  ⟨fun s us ws vs zs X l1 l2 r rz => ⟨g us ws, b.to s us ws X (r.length.symm.trans l1) (rz.length.symm.trans l2), b.rel r rz⟩⟩
theorem Bnd.all {K : PySem.W.Frag} {fd : FuncData} {ps ks : List Str} {n : Nat} {g : List V → List V → List V} (h : ∀ (us ws : List Value) (vs zs : List V), vs.length = n → zs.length = ks.length → Vals vs us → Vals zs ws →
    ∃ vv : List Value, bindArgs fd ⟨us, ks.zip ws⟩ = pure (ps.zip vv) ∧ Vals (g vs zs) vv) : Bnd K fd ps n ks g :=
  ⟨fun s us ws vs zs _ l1 l2 r rz => by
    obtain ⟨vv, e, q⟩ := h us ws vs zs l1 l2 r rz
    exact ⟨vv, BindsTo.of_eq e, q⟩⟩
abbrev Pat := Nat × List Str × (List V → List V → List V)
def Bnd1 (K : PySem.W.Frag) (fd : FuncData) (ps : List Str) (p : Pat) : Prop := Bnd K fd ps p.1 p.2.1 p.2.2
section
variable {P : Program} {w : World} {K : PySem.W.Frag} {mg : Str → Option Value} {base : Heap}
/-- a def of the top, with the ways it is called -/
structure DefX (K : PySem.W.Frag) (mg : Str → Option Value) (x : Str) (st : Stmt) (ps : List Str) (pats : List Pat) : Prop where
  ex : ∃ (f : Addr) (fd : FuncData) (dvs : List V) (kws : List (Str × V)), FunD K x x (defArgs st) (defBody st) (defScope st) dvs kws f fd ∧ mg x = some (.ref f) ∧ ∀ p ∈ pats, Bnd1 K fd ps p
structure CalX (P : Program) (w : World) (K : PySem.W.Frag) (mg : Str → Option Value) (base : Heap) (k : Nat) (x : Str) (sp : Sp) (pats : List Pat) : Prop where
  ex : ∃ (f : Addr) (fd : FuncData) (ps : List Str), FnG P w K mg base (L2.CX P w) k f fd ps sp ∧ mg x = some (.ref f) ∧ PySem.W.keepIn K (.ref f) = true ∧ ∀ p ∈ pats, Bnd1 K fd ps p
abbrev BodyX (P : Program) (w : World) (K : PySem.W.Frag) (mg : Str → Option Value) (base : Heap) (x : Str) (st : Stmt) (N : List Str) (k : Nat) (sp : Sp) : Prop :=
  ∀ (f : Addr) (cdv : Value) (A : Around) (outer : List Env) (s : Shared) (H : Hp) (vs : List V) (Q : VK) (E : XK), RoomG k (A.deeper (envOfC x (defScope st) s.heap.objs.size f cdv)) → sp vs H Q E →
    ∃ t, PSs (cxOf (L2.CX P w) P w K mg base N x (defScope st) f cdv A outer s H E) (defBody st) t ∧ t { nx := fun _ H' => Q .non H', rt := Q } (start N vs) H
theorem DefX.ok {x : Str} {st : Stmt} {N ps : List Str} {pats : List Pat} {k : Nat} {sp : Sp} (D : DefX K mg x st ps pats) (S : FnScope N ps (defScope st)) (len : ∀ vs H Q E, sp vs H Q E → vs.length = ps.length)
    (hbody : BodyX P w K mg base x st N k sp) : CalX P w K mg base (k + 1) x sp pats := by
  obtain ⟨f, fd, dvs, kws, F, hm, b⟩ := D.ex
  exact ⟨f, fd, ps, FnG.body F S len (fun cdv A outer s H vs Q E hr h => hbody f cdv A outer s H vs Q E hr h), hm, F.kp, b⟩
end
section
variable {X : Cx} {k j n : Nat} {f : Addr} {fd : FuncData} {ps ks : List Str} {g : List V → List V → List V} {sp : Sp} {x : Str} {pos p : Pos} {e : Expr} {es : List Expr} {kws : List Keyword} {t tk : TA} {W : WX}
theorem run_X {pins : List (Addr × Obj)} {σ : L2.St} {H : Hp} {s : Shared} {Q : VK} {us ws : List Value} {vs zs : List V} (F : FnG X.prog X.w X.K X.mg X.base (L2.CX X.prog X.w) k f fd ps sp) (hr : RoomG k X.A) (hb : Bnd X.K fd ps n ks g) (tkW : Takes X W)
    (I : Inv X pins σ H s) (r : Vals vs us) (rz : Vals zs ws) (l1 : vs.length = n) (l2 : zs.length = ks.length) (h : sp (g vs zs) H Q (WE W σ)) :
    wpAny (model X.prog X.w) X.A (call (.ref f) us (ks.zip ws)) (EP X pins σ Q) X.xe s := by
  obtain ⟨vv, b, r2⟩ := hb.to s us ws vs zs I.kIn l1 l2 r rz
  refine wpAny_call (codeAny_mono (F.run X.A X.stack s H ⟨us, ks.zip ws⟩ vv (g vs zs) Q (WE W σ) hr I.env0 b r2 h) fun rr s' hq => ?_)
  cases rr with
  | error er => exact passAt tkW σ pins H s er s' I hq
  | ok fl =>
    cases fl with
    | ret u => exact I.after hq
    | next => exact hq.elim
    | brk => exact hq.elim
    | cont => exact hq.elim
/-- f(e, .., k = v, ..) -/
def tCallX (n m : Nat) (sp : Sp) (g : List V → List V → List V) (W : WX) (t tk : TA) : TE := fun σ H Q => t σ H fun vs H1 => tk σ H1 fun zs H2 => vs.length = n ∧ zs.length = m ∧ sp (g vs zs) H2 Q (WE W σ)
theorem vx_callX {pats : List Pat} (c : CalX X.prog X.w X.K X.mg X.base k x sp pats) (pt : Pat) (hpt : pt ∈ pats) (hr : RoomG j X.A) (hk : k ≤ j) (tkW : Takes X W) (hg : Gl X x) (ha : PA X (e :: es) t) (hkw : PK X kws tk)
    (hall : (backToKw pos (keywordEach kws X.env)).all (·.1.isSome) = true := by rfl) (hks : (backToKw pos (keywordEach kws X.env)).filterMap (·.1) = pt.2.1 := by rfl)
    (hdb : (x == ("__debug__" : Str)) = false := by decide) (he : starEach (e :: es) X.env = (false, eval e X.env) :: starEach es X.env := by rfl)
    (hpl : ((backTo pos (starEach (e :: es) X.env)).any (·.1) || (backToKw pos (keywordEach kws X.env)).any (·.1.isNone)) = false := by rfl) :
    PE X (.Call (.Name x p) (e :: es) kws pos) (tCallX pt.1 pt.2.1.length sp pt.2.2 W t tk) := by
  obtain ⟨f, fd, ps, F, hm, kp, b⟩ := c.ex
  refine ⟨fun pins s σ H Q I h => ?_⟩
  refine wpAny_Call_Name_kw (ld_glob I hg hm ?_ hdb)
  refine PySem.W.callWith_KW (h₀ := X.base) I.ok.mod.kin kp hall (thn (ha.run pos pins s σ H _ I h) fun us s1 ⟨vs, H1, I1, r, q⟩ => ?_) hpl he
  refine thn (hkw.run pos pins s1 σ H1 _ I1 q) fun ws s2 ⟨zs, H2, I2, rz, l1, l2, q2⟩ => ⟨I2.kIn, ?_⟩
  rw [hks]
  exact run_X F (hr.low hk) (b pt hpt) tkW I2 r rz l1 l2 q2
theorem vx_callX0 {pats : List Pat} (c : CalX X.prog X.w X.K X.mg X.base k x sp pats) (pt : Pat) (hpt : pt ∈ pats) (hr : RoomG j X.A) (hk : k ≤ j) (tkW : Takes X W) (hg : Gl X x) (hks : pt.2.1 = [] := by rfl)
    (hdb : (x == ("__debug__" : Str)) = false := by decide) : PE X (.Call (.Name x p) [] [] pos) (tCallX pt.1 pt.2.1.length sp pt.2.2 W tNil tNil) := by
  obtain ⟨f, fd, ps, F, hm, kp, b⟩ := c.ex
  refine ⟨fun pins s σ H Q I h => ?_⟩
  refine wpAny_Call_Name_kw (ld_glob I hg hm ?_ hdb)
  obtain ⟨l1, l2, q2⟩ := h
  have hz := run_X (us := []) (ws := []) F (hr.low hk) (b pt hpt) tkW I .nil .nil l1 l2 q2
  rw [hks] at hz
  exact PySem.W.callWith_K0 I.kIn kp hz
end
/-! ### borrowed things -/
theorem Sep.bM {M : List Addr} {H0 G0 G H : Hp} {O : List (Addr)} (S : Sep M H0 G0 G H O) : Same (hideL M H0) H := fun b o e => by
  by_cases h : b ∈ M
  · rw [hideL_in h] at e
    cases e
  · rw [hideL_out h] at e
    exact S.base b o e h
theorem b_ne {M : List Addr} {H0 G0 G H : Hp} {O : List Addr} {a b : Addr} {o : HO} (h : (hideL M H0) a = some o) (S : Sep M H0 G0 G H O) (hb : b ∈ O) : a ≠ b := fun z => by
  subst z
  rcases (S.ow a hb).2.2 with q | q
  · rw [hideL_in q] at h
    cases h
  · by_cases hM : a ∈ M
    · rw [hideL_in hM] at h
      cases h
    · rw [hideL_out hM, q] at h
      cases h
theorem hide0 {H : Hp} : hideL [] H = H := by
  funext b
  unfold hideL
  rw [if_neg List.not_mem_nil]
theorem hide_nil {H : Hp} {a : Addr} {o : HO} (h : H a = some o) : (hideL [] H) a = some o := by
  rw [hide0]
  exact h
theorem Rp.hide_nil {H : Hp} {v : V} {d : PyData} (h : Rp H v d) : Rp (hideL [] H) v d := by
  rw [hide0]
  exact h
theorem Sep.startM {M : List Addr} {G H : Hp} (e : Same G H) (hM : ∀ a ∈ M, H a ≠ none) (hG : ∀ a ∈ M, G a = none) : Sep M H G G H M :=
  ⟨fun _ _ e _ => e, hM, e, Same.refl _, fun _ _ e => e, fun a ha => ⟨hG a ha, hM a ha, .inl ha⟩⟩
theorem Sep.gno {M : List Addr} {H0 G0 G H : Hp} {O L : List Addr} (S : Sep M H0 G0 G H O) (h : ∀ a ∈ L, a ∈ O) : ∀ a ∈ L, G a = none := fun a ha => (S.ow a (h a ha)).1
theorem RpAll.ixD {α : Type} [Inhabited α] {f : α → PyData} {H : Hp} {vs : List V} {xs : List α} {k : Int} (r : RpAll H vs (xs.map f)) (h : -(xs.length : Int) ≤ k ∧ k < xs.length) : ∃ v, atI vs k = some v ∧ Rp H v (f (itD xs k)) := by
  obtain ⟨v, x, h1, h2, h3⟩ := RpAll.ix r h
  refine ⟨v, h1, ?_⟩
  unfold itD
  rw [h2]
  exact h3
theorem tru_all {α : Type} [DecidableEq α] {f : α → PyData} {H : Hp} {vs : List V} {xs : List α} (r : RpAll H vs (xs.map f)) : (!decide (xs = [])) = !vs.isEmpty := by
  have h := r.len
  rw [List.length_map] at h
  cases xs <;> cases vs <;> simp_all
theorem ix_nn {α : Type} {xs : List α} {k : Int} (h0 : 0 ≤ k) (h1 : k < xs.length) : -(xs.length : Int) ≤ k ∧ k < xs.length := ⟨by omega, h1⟩
theorem all_nilQ {α : Type} {P : α → Prop} : ∀ x ∈ ([] : List α), P x := fun x h => by cases h
theorem all_consQ {α : Type} {P : α → Prop} {a : α} {l : List α} (h : P a) (t : ∀ x ∈ l, P x) : ∀ x ∈ a :: l, P x := fun x hx => by
  rcases List.mem_cons.mp hx with rfl | hx
  · exact h
  · exact t x hx
theorem mem_one {a b : Nat} (h : a ∈ [b]) : a = b := by simpa using h
theorem mem_cons2 {a b : Nat} {l : List Nat} (h : a ∈ b :: l) : a = b ∨ a ∈ l := List.mem_cons.mp h
theorem len0 {α : Type} {l : List α} (h : l.length = 0) : l = [] := List.length_eq_zero_iff.mp h
theorem len1 {α : Type} {l : List α} (h : l.length = 1) : ∃ a, l = [a] := List.length_eq_one_iff.mp h
theorem len_s {α : Type} {l : List α} {n : Nat} (h : l.length = n + 1) : ∃ a r, l = a :: r ∧ r.length = n := by
  cases l with
  | nil => cases h
  | cons a r => exact ⟨a, r, rfl, Nat.succ.inj h⟩
theorem len2 {α : Type} {l : List α} (h : l.length = 2) : ∃ a b, l = [a, b] := by
  obtain ⟨a, r, rfl, h2⟩ := len_s h
  obtain ⟨b, rfl⟩ := len1 h2
  exact ⟨a, b, rfl⟩
theorem len3 {α : Type} {l : List α} (h : l.length = 3) : ∃ a b c, l = [a, b, c] := by
  obtain ⟨a, r, rfl, h2⟩ := len_s h
  obtain ⟨b, c, rfl⟩ := len2 h2
  exact ⟨a, b, c, rfl⟩
theorem len4 {α : Type} {l : List α} (h : l.length = 4) : ∃ a b c d, l = [a, b, c, d] := by
  obtain ⟨a, r, rfl, h2⟩ := len_s h
  obtain ⟨b, c, d, rfl⟩ := len3 h2
  exact ⟨a, b, c, d, rfl⟩
theorem len5 {α : Type} {l : List α} (h : l.length = 5) : ∃ a b c d e, l = [a, b, c, d, e] := by
  obtain ⟨a, r, rfl, h2⟩ := len_s h
  obtain ⟨b, c, d, e, rfl⟩ := len4 h2
  exact ⟨a, b, c, d, e, rfl⟩
theorem len6 {α : Type} {l : List α} (h : l.length = 6) : ∃ a b c d e f, l = [a, b, c, d, e, f] := by
  obtain ⟨a, r, rfl, h2⟩ := len_s h
  obtain ⟨b, c, d, e, f, rfl⟩ := len5 h2
  exact ⟨a, b, c, d, e, f, rfl⟩
theorem len7 {α : Type} {l : List α} (h : l.length = 7) : ∃ a b c d e f g, l = [a, b, c, d, e, f, g] := by
  obtain ⟨a, r, rfl, h2⟩ := len_s h
  obtain ⟨b, c, d, e, f, g, rfl⟩ := len6 h2
  exact ⟨a, b, c, d, e, f, g, rfl⟩
def rLenTK (K : PySem.W.Frag) : List V → Hp → VK → Prop := fun xs H Q => ∃ (p : Addr) (vs : List V) (n : Nat), xs = [.ref p] ∧ SqT K H p vs ∧ vs.length = n ∧ Q (.int (n : Int)) H
theorem call_lenTK {X : Cx} {K : PySem.W.Frag} (hK : X.K = K := by rfl) : CallR X (.builtin "len") (rLenTK K) := by
  subst hK
  intro pins s σ H xs us Q I r h
  obtain ⟨p, vs, n, rfl, hs, hn, q⟩ := h
  exact call_len_seq pins s σ H _ us Q I r ⟨p, _, rfl, Or.inr hs, by rw [hn]; exact q⟩
theorem exm_mk {K : PySem.W.Frag} {S C : Addr} (h1 : PySem.W.subIn K (.ref C) (.type "BaseException") = some true) (h2 : PySem.W.isClsIn K C = true) (h3 : PySem.W.typeIn K (.ref C) = some (.type "type")) (h4 : PySem.W.subIn K (.ref S) (.ref C) = some true) :
    PySem.W.exmOne K (.ref S) (.ref C) = some true := by
  unfold PySem.W.isClsIn at h2
  unfold PySem.W.exmOne
  unfold PySem.W.kitCls
  simp only [h1, h2, h3, h4, beq_self_eq_true, Bool.and_self, if_true]
theorem kit_mk {K : PySem.W.Frag} {S C : Addr} (h2 : PySem.W.isClsIn K C = true) (h3 : PySem.W.typeIn K (.ref C) = some (.type "type")) (h4 : PySem.W.subIn K (.ref S) (.ref C) = some true) :
    PySem.W.kitOne K (.ref S) (.ref C) = some true := by
  unfold PySem.W.isClsIn at h2
  unfold PySem.W.kitOne
  split
  · rfl
  · unfold PySem.W.kitCls
    simp only [h2, h3, h4, beq_self_eq_true, Bool.and_self, if_true]
/-- isinstance(e, C) of the exception in hand -/
def rIsX (K : PySem.W.Frag) (a : Addr) (cls : Value) (d : Option Addr) : List V → Hp → VK → Prop := fun xs H Q => ∃ (D C : Addr) (b : Bool), cls = .ref D ∧ d = none ∧ ExcC K D ∧ xs = [.ref a, .ref C] ∧ PySem.W.kitOne K (.ref D) (.ref C) = some b ∧ Q (.bl b) H
theorem call_isX {X : Cx} {K : PySem.W.Frag} {a : Addr} {cls : Value} {d : Option Addr} {oe : Obj} {pn : List (Addr × Obj)} (hz : Zc cls d oe) (hf : ∃ vs, oe.data = .fields vs) (hK : X.K = K := by rfl) : CallR (X.suite a ((a, oe) :: pn)) (.builtin "isinstance") (rIsX K a cls d) := by
  subst hK
  intro pins s σ H xs us Q I r h
  obtain ⟨D, C, b, rfl, rfl, c, rfl, e, q⟩ := h
  exact call_isE c hz hf pins s σ H _ us Q I r ⟨_, _, b, rfl, fun u z => z, e, q⟩
/-! ### unpacking a list -/
section
variable {X : Cx} {K : PySem.W.Frag} {pos : Pos}
theorem pg_seqK {es : List Expr} {k : Nat} {t : TGs} {n : Nat} (h : PGs X es t) (hc : X.calm = true := by rfl) (hK : X.K = K := by rfl)
    (hn : (assignEach es X.env).length = n := by rfl) (hst : (assignEach es X.env).findIdx? (·.1) = none := by rfl) : PG X (.Tuple es k pos) (gLst K n t) := hK ▸ pg_lst hc h hn hst
end
theorem SqL.cast {K : PySem.W.Frag} {H : Hp} {a : Addr} {xs ys : List V} (h : SqL K H a xs) (e : xs = ys) : SqL K H a ys := e ▸ h
section
variable {α : Type} [Inhabited α] {f : α → V}
theorem unp2 {xs : List α} (h : xs.length = 2) : xs.map f = [f (itD xs 0), f (itD xs 1)] := by
  obtain ⟨a, b, rfl⟩ := len2 h
  rfl
theorem unp3 {xs : List α} (h : xs.length = 3) : xs.map f = [f (itD xs 0), f (itD xs 1), f (itD xs 2)] := by
  obtain ⟨a, b, c, rfl⟩ := len3 h
  rfl
theorem unp4 {xs : List α} (h : xs.length = 4) : xs.map f = [f (itD xs 0), f (itD xs 1), f (itD xs 2), f (itD xs 3)] := by
  obtain ⟨a, b, c, d, rfl⟩ := len4 h
  rfl
theorem unp6 {xs : List α} (h : xs.length = 6) : xs.map f = [f (itD xs 0), f (itD xs 1), f (itD xs 2), f (itD xs 3), f (itD xs 4), f (itD xs 5)] := by
  obtain ⟨a, b, c, d, e, g, rfl⟩ := len6 h
  rfl
theorem unp8 {xs : List α} (h : xs.length = 8) : xs.map f = [f (itD xs 0), f (itD xs 1), f (itD xs 2), f (itD xs 3), f (itD xs 4), f (itD xs 5), f (itD xs 6), f (itD xs 7)] := by
  obtain ⟨a, r, rfl, h2⟩ := len_s h
  obtain ⟨b, c, d, e, g, i, j, rfl⟩ := len7 h2
  rfl
end
/-! ### classes -/
section
variable {P : Program} {w : World} {K : PySem.W.Frag} {mg : Str → Option Value} {base : Heap}
structure MethX (K : PySem.W.Frag) (C : Addr) (q m : Str) (st : Stmt) (ps : List Str) (pats : List Pat) : Prop where
  ex : ∃ (f : Addr) (fd : FuncData) (dvs : List V) (kws : List (Str × V)), FunD K m q (defArgs st) (defBody st) (defScope st) dvs kws f fd ∧ Meth K C m f ∧ ∀ p ∈ pats, Bnd1 K fd ps p
structure InitX (K : PySem.W.Frag) (mg : Str → Option Value) (C : Addr) (cn q : Str) (st : Stmt) (ps : List Str) (pats : List Pat) : Prop where
  ex : ∃ (f : Addr) (fd : FuncData) (dvs : List V) (kws : List (Str × V)), FunD K "__init__" q (defArgs st) (defBody st) (defScope st) dvs kws f fd ∧ Mk K C f ∧ mg cn = some (.ref C) ∧ ∀ p ∈ pats, Bnd1 K fd ps p
structure PropX (K : PySem.W.Frag) (C : Addr) (q m : Str) (st : Stmt) (ps : List Str) (pats : List Pat) : Prop where
  ex : ∃ (r f : Addr) (fd : FuncData) (dvs : List V) (kws : List (Str × V)), FunD K m q (defArgs st) (defBody st) (defScope st) dvs kws f fd ∧ PropOf K C m r f ∧ Binds K fd ps []
structure MetX (P : Program) (w : World) (K : PySem.W.Frag) (mg : Str → Option Value) (base : Heap) (k : Nat) (C : Addr) (m : Str) (sp : Sp) (pats : List Pat) : Prop where
  ex : ∃ (f : Addr) (fd : FuncData) (ps : List Str), Cls K C ∧ Meth K C m f ∧ FnG P w K mg base (L2.CX P w) k f fd ps sp ∧ ∀ p ∈ pats, Bnd1 K fd ps p
structure PropY (P : Program) (w : World) (K : PySem.W.Frag) (mg : Str → Option Value) (base : Heap) (k : Nat) (C : Addr) (m : Str) (sp : Sp) (pats : List Pat) : Prop where
  ex : ∃ (q f : Addr) (fd : FuncData) (ps : List Str), Cls K C ∧ PropOf K C m q f ∧ FnG P w K mg base (L2.CX P w) k f fd ps sp ∧ Binds K fd ps []
structure MakX (P : Program) (w : World) (K : PySem.W.Frag) (mg : Str → Option Value) (base : Heap) (k : Nat) (cn : Str) (C : Addr) (sp : Sp) (pats : List Pat) : Prop where
  ex : ∃ (f : Addr) (fd : FuncData) (ps : List Str), Mk K C f ∧ FnG P w K mg base (L2.CX P w) k f fd ps sp ∧ mg cn = some (.ref C) ∧ ∀ p ∈ pats, Bnd1 K fd ps p
theorem MethX.ok {C : Addr} {q m : Str} {st : Stmt} {N ps : List Str} {pats : List Pat} {k : Nat} {sp : Sp} (D : MethX K C q m st ps pats) (c : Cls K C) (S : FnScope N ps (defScope st)) (len : ∀ vs H Q E, sp vs H Q E → vs.length = ps.length)
    (hbody : BodyX P w K mg base q st N k sp) : MetX P w K mg base (k + 1) C m sp pats := by
  obtain ⟨f, fd, dvs, kws, F, me, b⟩ := D.ex
  exact ⟨f, fd, ps, c, me, FnG.body F S len (fun cdv A outer s H vs Q E hr h => hbody f cdv A outer s H vs Q E hr h), b⟩
theorem PropX.ok {C : Addr} {q m : Str} {st : Stmt} {N ps : List Str} {pats : List Pat} {k : Nat} {sp : Sp} (D : PropX K C q m st ps pats) (c : Cls K C) (S : FnScope N ps (defScope st)) (len : ∀ vs H Q E, sp vs H Q E → vs.length = ps.length)
    (hbody : BodyX P w K mg base q st N k sp) : PropY P w K mg base (k + 1) C m sp pats := by
  obtain ⟨r, f, fd, dvs, kws, F, me, b⟩ := D.ex
  exact ⟨r, f, fd, ps, c, me, FnG.body F S len (fun cdv A outer s H vs Q E hr h => hbody f cdv A outer s H vs Q E hr h), b⟩
theorem InitX.ok {C : Addr} {cn q : Str} {st : Stmt} {N ps : List Str} {pats : List Pat} {k : Nat} {sp : Sp} (D : InitX K mg C cn q st ps pats) (S : FnScope N ps (defScope st)) (len : ∀ vs H Q E, sp vs H Q E → vs.length = ps.length)
    (hbody : BodyX P w K mg base q st N k sp) : MakX P w K mg base (k + 1) cn C sp pats := by
  obtain ⟨f, fd, dvs, kws, F, me, hm, b⟩ := D.ex
  exact ⟨f, fd, ps, me, FnG.body F S len (fun cdv A outer s H vs Q E hr h => hbody f cdv A outer s H vs Q E hr h), hm, b⟩
end
theorem cW_callN {α β : Type} {m : Rx β} {f : β → Rx α} {K : α → Prop} {E : Nat → Prop} {K2 : β → Prop} {E2 : Nat → Prop} (h : cW ((noEr m).bind f) K E) (ho : ∀ v, cW (f v) K E → K2 v) (_ : True) : cW m K2 E2 := by
  cases m with
  | ok a => exact cW_mk (ho a h)
  | er e => exact cW_bad (α := α) h
  | bad => exact cW_bad (α := α) h
section
variable {X : Cx} {k j n : Nat} {f C : Addr} {fd : FuncData} {ps ks : List Str} {g : List V → List V → List V} {sp : Sp} {x m : Str} {pos p apos : Pos} {e o : Expr} {es : List Expr} {kws : List Keyword} {ta : TE} {t tk : TA} {W : WX}
theorem run_mkX {pins : List (Addr × Obj)} {σ : L2.St} {H : Hp} {s : Shared} {Q : VK} {us ws : List Value} {vs zs : List V} (M : Mk X.K C f) (F : FnG X.prog X.w X.K X.mg X.base (L2.CX X.prog X.w) k f fd ps sp) (hr : RoomG (k + 1) X.A) (hb : Bnd X.K fd ps n ks g) (tkW : Takes X W)
    (I : Inv X pins σ H s) (r : Vals vs us) (rz : Vals zs ws) (l1 : vs.length + 1 = n) (l2 : zs.length = ks.length)
    (h : ∀ x dx, H x = none → H dx = none → dx ≠ x → sp (g (.ref x :: vs) zs) (upd (upd H dx (.own x)) x (.ins C dx [])) (fun v H2 => v = .non ∧ Q (.ref x) H2) (WE W σ)) :
    wpAny (model X.prog X.w) X.A (call (.ref C) us (ks.zip ws)) (EP X pins σ Q) X.xe s := by
  have hq := h (s.heap.objs.size + 1) s.heap.objs.size (I.hok.fresh (Nat.le_succ _)) (I.hok.fresh (Nat.le_refl _)) (Nat.ne_of_lt (Nat.lt_succ_self _))
  have I2 := Inv.made (C := C) I
  have r1 : Vals (V.ref (s.heap.objs.size + 1) :: vs) (Value.ref (s.heap.objs.size + 1) :: us) := .cons rfl r
  obtain ⟨vv, b, r2⟩ := hb.to _ (Value.ref (s.heap.objs.size + 1) :: us) ws (V.ref (s.heap.objs.size + 1) :: vs) zs I2.kIn (by rw [List.length_cons, l1]) l2 r1 rz
  refine wpAny_call (make_map (f := f) I.kIn M.makes M.init (beq_iff_eq.mp M.fn) (codeAny_mono (F.run _ X.stack _ _ ⟨Value.ref (s.heap.objs.size + 1) :: us, ks.zip ws⟩ vv _ _ (WE W σ) (hr.made C us (ks.zip ws))
    (I2.env0.make C us (ks.zip ws)) b r2 hq) fun r s' hq' => ?_))
  cases r with
  | error e => exact passAt tkW σ pins _ _ e s' I2 hq'
  | ok fl =>
    cases fl with
    | ret u =>
      obtain ⟨v, H', I3, rv, ev, q3⟩ := I2.after hq'
      subst ev
      exact ⟨rv, ⟨V.ref (s.heap.objs.size + 1), H', I3, rfl, q3⟩⟩
    | next => exact False.elim hq'
    | brk => exact False.elim hq'
    | cont => exact False.elim hq'
/-- C(e, .., k = v, ..) -/
def tMakeX (C : Addr) (n m : Nat) (sp : Sp) (g : List V → List V → List V) (W : WX) (t tk : TA) : TE := fun σ H Q => t σ H fun vs H1 => tk σ H1 fun zs H2 => vs.length + 1 = n ∧ zs.length = m ∧ ∀ x dx, H2 x = none → H2 dx = none → dx ≠ x →
  sp (g (.ref x :: vs) zs) (upd (upd H2 dx (.own x)) x (.ins C dx [])) (fun v H3 => v = .non ∧ Q (.ref x) H3) (WE W σ)
theorem vx_makeX {pats : List Pat} (c : MakX X.prog X.w X.K X.mg X.base k x C sp pats) (pt : Pat) (hpt : pt ∈ pats) (hr : RoomG j X.A) (hk : k + 1 ≤ j) (tkW : Takes X W) (hg : Gl X x) (ha : PA X (e :: es) t) (hkw : PK X kws tk)
    (hall : (backToKw pos (keywordEach kws X.env)).all (·.1.isSome) = true := by rfl) (hks : (backToKw pos (keywordEach kws X.env)).filterMap (·.1) = pt.2.1 := by rfl) (hdb : (x == ("__debug__" : Str)) = false := by decide)
    (he : starEach (e :: es) X.env = (false, eval e X.env) :: starEach es X.env := by rfl) (hpl : ((backTo pos (starEach (e :: es) X.env)).any (·.1) || (backToKw pos (keywordEach kws X.env)).any (·.1.isNone)) = false := by rfl) :
    PE X (.Call (.Name x p) (e :: es) kws pos) (tMakeX C pt.1 pt.2.1.length sp pt.2.2 W t tk) := by
  obtain ⟨f, fd, ps, M, F, hm, b⟩ := c.ex
  refine ⟨fun pins s σ H Q I h => ?_⟩
  refine wpAny_Call_Name_kw (ld_glob I hg hm ?_ hdb)
  refine PySem.W.callWith_KW (h₀ := X.base) I.ok.mod.kin M.kp hall (thn (ha.run pos pins s σ H _ I h) fun us s1 ⟨vs, H1, I1, r, q⟩ => ?_) hpl he
  refine thn (hkw.run pos pins s1 σ H1 _ I1 q) fun ws s2 ⟨zs, H2, I2, rz, l1, l2, q2⟩ => ⟨I2.kIn, ?_⟩
  rw [hks]
  exact run_mkX M F (hr.low hk) (b pt hpt) tkW I2 r rz l1 l2 q2
theorem vx_makeX0 {pats : List Pat} (c : MakX X.prog X.w X.K X.mg X.base k x C sp pats) (pt : Pat) (hpt : pt ∈ pats) (hr : RoomG j X.A) (hk : k + 1 ≤ j) (tkW : Takes X W) (hg : Gl X x) (hks : pt.2.1 = [] := by rfl)
    (hdb : (x == ("__debug__" : Str)) = false := by decide) : PE X (.Call (.Name x p) [] [] pos) (tMakeX C pt.1 pt.2.1.length sp pt.2.2 W tNil tNil) := by
  obtain ⟨f, fd, ps, M, F, hm, b⟩ := c.ex
  refine ⟨fun pins s σ H Q I h => ?_⟩
  refine wpAny_Call_Name_kw (ld_glob I hg hm ?_ hdb)
  obtain ⟨l1, l2, q2⟩ := h
  have hz := run_mkX (us := []) (ws := []) M F (hr.low hk) (b pt hpt) tkW I .nil .nil l1 l2 q2
  rw [hks] at hz
  exact PySem.W.callWith_K0 I.kIn M.kp hz
/-- o.m(e, .., k = v, ..) -/
def tMethX (C : Addr) (m : Str) (n mm : Nat) (sp : Sp) (g : List V → List V → List V) (W : WX) (ta : TE) (t tk : TA) : TE := fun σ H Q => ta σ H fun x H1 => ∃ a dx fs, x = .ref a ∧ H1 a = some (.ins C dx fs) ∧ fs.lookup m = none ∧
  t σ H1 fun vs H2 => tk σ H2 fun zs H3 => (x :: vs).length = n ∧ zs.length = mm ∧ sp (g (x :: vs) zs) H3 Q (WE W σ)
theorem vx_methX {pats : List Pat} {pl : Sem Bool} (c : MetX X.prog X.w X.K X.mg X.base k C m sp pats) (pt : Pat) (hpt : pt ∈ pats) (hr : RoomG j X.A) (hk : k ≤ j) (tkW : Takes X W) (he : PE X o ta) (ha : PA X (e :: es) t) (hkw : PK X kws tk)
    (hall : (backToKw pos (keywordEach kws X.env)).all (·.1.isSome) = true := by rfl) (hks : (backToKw pos (keywordEach kws X.env)).filterMap (·.1) = pt.2.1 := by rfl)
    (hst : starEach (e :: es) X.env = (false, eval e X.env) :: starEach es X.env := by rfl) (hpl : ((backTo pos (starEach (e :: es) X.env)).any (·.1) || (backToKw pos (keywordEach kws X.env)).any (·.1.isNone)) = false := by rfl)
    (ht : eval (.Call (.Attribute o m apos) (e :: es) kws pos) X.env = (do
      let ov ← eval o X.env
      standAt apos.atName
      let (f, first) ← holding [ov] (getMethod ov m pl)
      callWith pos f first (backTo pos (starEach (e :: es) X.env)) (backToKw pos (keywordEach kws X.env))) := by rfl) :
    PE X (.Call (.Attribute o m apos) (e :: es) kws pos) (tMethX C m pt.1 pt.2.1.length sp pt.2.2 W ta t tk) := by
  obtain ⟨f, fd, ps, hc, hm, F, b⟩ := c.ex
  refine ⟨fun pins s σ H Q I h => ?_⟩
  refine PySem.W.methodCall_KW (pl := pl) (thn (he.run pins s σ H _ I h) fun u s1 ⟨x, H1, I1, rx, a, dx, fs, ex, ea, l, q⟩ => ?_) ht
  subst ex
  obtain rfl : u = Value.ref a := rx
  refine getmeth_ok I1 ea hc hm l ?_
  refine PySem.W.callWith_KW (first := [.ref a]) (h₀ := X.base) I.ok.mod.kin hm.kp hall (thn (ha.run pos pins s1 σ H1 _ I1 q) fun us s2 ⟨vs, H2, I2, r, q2⟩ => ?_) hpl hst
  refine thn (hkw.run pos pins s2 σ H2 _ I2 q2) fun ws s3 ⟨zs, H3, I3, rz, l1, l2, q3⟩ => ⟨I3.kIn, ?_⟩
  rw [hks]
  exact run_X (us := .ref a :: us) (vs := .ref a :: vs) F (hr.low hk) (b pt hpt) tkW I3 (.cons rfl r) rz l1 l2 q3
theorem vx_methX0 {pats : List Pat} {pl : Sem Bool} (c : MetX X.prog X.w X.K X.mg X.base k C m sp pats) (pt : Pat) (hpt : pt ∈ pats) (hr : RoomG j X.A) (hk : k ≤ j) (tkW : Takes X W) (he : PE X o ta) (hks : pt.2.1 = [] := by rfl)
    (ht : eval (.Call (.Attribute o m apos) [] [] pos) X.env = (do
      let ov ← eval o X.env
      standAt apos.atName
      let (f, first) ← holding [ov] (getMethod ov m pl)
      callWith pos f first (backTo pos (starEach [] X.env)) (backToKw pos (keywordEach [] X.env))) := by rfl) :
    PE X (.Call (.Attribute o m apos) [] [] pos) (tMethX C m pt.1 pt.2.1.length sp pt.2.2 W ta tNil tNil) := by
  obtain ⟨f, fd, ps, hc, hm, F, b⟩ := c.ex
  refine ⟨fun pins s σ H Q I h => ?_⟩
  refine PySem.W.methodCall_KW (pl := pl) (thn (he.run pins s σ H _ I h) fun u s1 ⟨x, H1, I1, rx, a, dx, fs, ex, ea, l, q⟩ => ?_) ht
  subst ex
  obtain rfl : u = Value.ref a := rx
  refine getmeth_ok I1 ea hc hm l ?_
  obtain ⟨l1, l2, q3⟩ := q
  have hz := run_X (us := [.ref a]) (vs := [.ref a]) (ws := []) F (hr.low hk) (b pt hpt) tkW I1 (.cons rfl .nil) .nil l1 l2 q3
  rw [hks] at hz
  exact PySem.W.callWith_K0 (first := [.ref a]) I1.kIn hm.kp hz
theorem vx_propX {pats : List Pat} (c : PropY X.prog X.w X.K X.mg X.base k C m sp pats) (hr : RoomG j X.A) (hk : k + 1 ≤ j) (he : PE X o ta) (hab : attributeBase o m X.env (eval o X.env) = eval o X.env := by rfl) : PE X (.Attribute o m pos) (tProp C sp [] E0 ta) := by
  obtain ⟨q, f, fd, ps, cls, prop, F, bind⟩ := c.ex
  constructor
  intro pins s σ H Q I h
  refine attr_of hab (thn (he.run pins s σ H _ I h) ?_)
  rintro u s1 ⟨x, H1, I1, rx, a, dx, fs, rfl, ea, prom⟩
  cases rx
  obtain ⟨mA, O, _⟩ := ins_get I1.hok ea
  obtain ⟨od, J, _⟩ := O.look
  obtain ⟨rest, rec_⟩ := prop.rec_
  have short : [Value.ref a].length = ps.length := (F.len _ _ _ _ prom).symm ▸ rfl
  have isCls : (PySem.W.clsIn X.K C).isSome = true := by
    obtain ⟨cd, e, _⟩ := PySem.W.any_some cls.hd
    rw [e]
    rfl
  refine PySem.W.get_bind I1.kIn J (PySem.W.plainGet_of (cls.get m)).1 (PySem.W.findObj_data isCls prop.at_ prop.get prop.tak) (PySem.W.plainGet_of (cls.get m)).2 (wpAny_call (PySem.W.prop_get (s := { s1 with toks := s1.toks + 1 }) I1.kIn rec_ ?_))
  have I2 := I1.tok (s1.toks + 1)
  refine codeAny_mono (F.run X.A.in1 X.stack _ H1 ⟨[.ref a], []⟩ [.ref a] [.ref a] Q E0 (hr.low hk).one I2.env0.in1 (by simpa using bind _ [.ref a] I2.kIn (by simpa using short)) (.cons rfl .nil) prom) ?_
  intro r s2 out
  cases r with
  | error er => exact (passL (X := X.nox) pins σ H1 _ er s2 (I2.wish _) out).elim
  | ok flow =>
    cases flow with
    | ret v =>
      obtain ⟨y, H2, I3, ry, qy⟩ := I2.after out
      have given := PySem.W.handedOut_of (handed_of ry)
      show wpAny _ _ (handedOut v) _ _ s2
      rw [given]
      exact wpAny_pure ⟨y, H2, I3, ry, qy⟩
    | next => exact out.elim
    | brk => exact out.elim
    | cont => exact out.elim
end
theorem Sep.news {M : List Addr} {H0 G0 G H H' : Hp} {O : List Addr} (S : Sep M H0 G0 G H O) (e : Same H H') (L : List Addr) (hL : ∀ a ∈ L, H a = none ∧ H' a ≠ none ∧ H0 a = none) : Sep M H0 G0 G H' (L ++ O) := by
  have S2 := S.same e
  refine ⟨S2.base, S2.pm, S2.sG, S2.g0, S2.gn, fun a ha => ?_⟩
  rcases List.mem_append.mp ha with h | h
  · obtain ⟨h1, h2, h3⟩ := hL a h
    exact ⟨S.gfree h1, h2, .inr h3⟩
  · exact S2.ow a h
theorem vv_chain {r r' : R2} {ta tb tc : TE} {σ : L2.St} {H : Hp} {x y z : V} {a b : Bool} (ha : Val ta σ H x) (hb : Val tb σ H y) (hc : Val tc σ H z) (h1 : ∀ Q : VK, Q (.bl a) H → r x y H Q) (h2 : ∀ Q : VK, Q (.bl b) H → r' y z H Q) :
    Val (tChain r r' ta tb tc) σ H (.bl (a && b)) := fun Q q => ha _ (hb _ (h1 _ ⟨a, rfl, by
  cases a with
  | true =>
    rw [if_pos rfl]
    exact hc _ (h2 _ q)
  | false =>
    rw [if_neg Bool.false_ne_true]
    exact q⟩))
/-! ### constants that are tuples, lists backwards, zip -/
theorem inV_ints (x : Int) : ∀ xs : List Int, inV (V.int x) (xs.map V.int) = decide (x ∈ xs)
  | [] => by simp [inV]
  | y :: r => by
    have h := inV_ints x r
    unfold inV at h ⊢
    rw [List.map_cons, List.any_cons, h]
    by_cases c : x = y
    · subst c
      simp [eqV]
    · simp [eqV, c, Ne.symm c]
theorem flat_ints : ∀ xs : List Int, (xs.map V.int).all flatV = true
  | [] => rfl
  | _ :: r => flat_ints r
def rInI (K : PySem.W.Frag) : R2 := fun x y H Q => ∃ (i : Int) (p : Addr) (xs : List Int), x = .int i ∧ y = .ref p ∧ (SqL K H p (xs.map V.int) ∨ SqT K H p (xs.map V.int)) ∧ Q (.bl (decide (i ∈ xs))) H
def rNotInI (K : PySem.W.Frag) : R2 := fun x y H Q => ∃ (i : Int) (p : Addr) (xs : List Int), x = .int i ∧ y = .ref p ∧ (SqL K H p (xs.map V.int) ∨ SqT K H p (xs.map V.int)) ∧ Q (.bl (!decide (i ∈ xs))) H
theorem op_inI {X : Cx} {K : PySem.W.Frag} (hK : X.K = K := by rfl) : OpR X (compareOp .In) (rInI K) := by
  subst hK
  intro pins s σ H x y v u Q I rx ry h
  obtain ⟨i, p, xs, rfl, rfl, hs, q⟩ := h
  refine op_in_seq pins s σ H _ _ v u Q I rx ry ⟨p, _, rfl, hs, rfl, flat_ints xs, ?_⟩
  rw [if_neg Bool.false_ne_true, inV_ints]
  exact q
theorem op_notInI {X : Cx} {K : PySem.W.Frag} (hK : X.K = K := by rfl) : OpR X (compareOp .NotIn) (rNotInI K) := by
  subst hK
  intro pins s σ H x y v u Q I rx ry h
  obtain ⟨i, p, xs, rfl, rfl, hs, q⟩ := h
  refine op_notIn_seq pins s σ H _ _ v u Q I rx ry ⟨p, _, rfl, hs, rfl, flat_ints xs, ?_⟩
  rw [if_pos rfl, inV_ints]
  exact q
theorem pe_revLK {X : Cx} {K : PySem.W.Frag} {e : Expr} {te : TE} {k : Nat} {p1 p2 p3 pos : Pos} (he : PE X e te) (hK : X.K = K := by rfl) : PE X (.Subscript e (.Slice none none (some (.UnaryOp .USub (.Constant (.int 1) k p1) p2)) p3) pos) (tRevL K te) := hK ▸ pe_revL he
theorem rev_map {α : Type} {f : α → V} {xs : List α} {H : Hp} {p : Addr} (h : H p = some (.lst (xs.map f).reverse)) : H p = some (.lst (xs.reverse.map f)) := by
  rw [List.map_reverse]
  exact h
theorem RpAll.rev {G : Hp} : ∀ {vs : List V} {ds : List PyData}, RpAll G vs ds → RpAll G vs.reverse ds.reverse
  | _, _, .nil => .nil
  | _, _, .cons h t => by
    rw [List.reverse_cons, List.reverse_cons]
    exact (RpAll.rev t).append (.one h)
theorem rev_all {α : Type} {f : α → PyData} {xs : List α} {G : Hp} {vs : List V} (a : RpAll G vs (xs.map f)) : RpAll G vs.reverse (xs.reverse.map f) := by
  rw [List.map_reverse]
  exact a.rev
theorem pi_zipK {X : Cx} {K : PySem.W.Frag} {e e2 : Expr} {ta : TA} {p pos tpos : Pos} {elts : List Expr} {kk : Nat} (hg : Gl X "zip") (hm : X.mg "zip" = none) (ha : PA X [e, e2] ta) (hK : X.K = K := by rfl)
    (hs : starEach [e, e2] X.env = (false, eval e X.env) :: starEach [e2] X.env := by rfl) (hpl : (backTo pos (starEach [e2] X.env)).any (·.1) = false := by rfl) :
    PI X (.Tuple elts kk tpos) (.Call (.Name "zip" p) [e, e2] [] pos) (RZ.iZipA K ta) := hK ▸ RZ.pi_zipA hg hm ha hs hpl
/-- a comprehension over zip of two lists of one length -/
theorem lc_zipL {K : PySem.W.Frag} {a b : Addr} {xs ys : List V} {g : TG} {tt : TT} {te : TE} {vs : List Nat} {σ : L2.St} {H1 : Hp} {D : Addr} {Qd : Hp → Prop} (hl : xs.length = ys.length) (Pv : Nat → Hp → Prop) (h0 : Pv 0 (upd H1 D (.lst []))) (hq : ∀ i H, i ≤ xs.length → Pv i H → SqL K H a xs ∧ SqL K H b ys)
    (hs : ∀ (i : Nat) (x y : V) (T : Addr) (H : Hp), xs[i]? = some x → ys[i]? = some y → H T = none → Pv i H → g (.ref T) (wipe σ vs) (upd H T (.tup [x, y])) fun σ2 H2 => wipe σ2 vs = wipe σ vs ∧ tt σ2 H2 fun b H3 =>
      if b = true then te σ2 H3 fun y H4 => ∃ acc, H4 D = some (.lst acc) ∧ acc.length < sizeLine ∧ Pv (i + 1) (upd H4 D (.lst (acc ++ [y]))) else Pv (i + 1) H3) (hd : ∀ H, Pv xs.length H → Qd H) :
    ∃ W : Nat → Nat → Hp → Prop, (∃ m, W 0 m (upd H1 D (.lst []))) ∧ ∀ i m H, W i m H →
      ((Itz K a b).stop i H ∧ Qd H) ∨ ((Itz K a b).go i H ∧ ∃ Nx : Hp → Prop, (∀ H', Nx H' → ∃ m', m' < m ∧ W (i + 1) m' H') ∧ ∀ x H', (Itz K a b).yld i H x H' → g x (wipe σ vs) H' fun σ2 H2 => wipe σ2 vs = wipe σ vs ∧ tt σ2 H2 fun b H3 =>
        if b = true then te σ2 H3 fun y H4 => ∃ acc, H4 D = some (.lst acc) ∧ acc.length < sizeLine ∧ Nx (upd H4 D (.lst (acc ++ [y]))) else Nx H3) := by
  refine ⟨fun i m H => m = xs.length - i ∧ i ≤ xs.length ∧ Pv i H, ⟨xs.length, by simp, Nat.zero_le _, h0⟩, ?_⟩
  rintro i m H ⟨rfl, hi, p⟩
  obtain ⟨qx, qy⟩ := hq i H hi p
  by_cases hlt : i < xs.length
  · have hlt2 : i < ys.length := by omega
    refine .inr ⟨⟨xs, ys, xs[i], ys[i], qx, qy, List.getElem?_eq_getElem hlt, List.getElem?_eq_getElem hlt2⟩, Pv (i + 1), fun H' p' => ⟨xs.length - (i + 1), by omega, rfl, hlt, p'⟩, fun v H' y => ?_⟩
    obtain ⟨T, x', y', rfl, hT, rfl, f1, f2⟩ := y
    exact hs i x' y' T H (f1 xs qx) (f2 ys qy) hT p
  · have e : i = xs.length := by omega
    subst e
    exact .inl ⟨⟨xs, ys, qx, qy, Or.inl (Nat.le_refl _)⟩, hd H p⟩
theorem zip_get {α β : Type} {xs : List α} {ys : List β} {i : Nat} {x : α} {y : β} (h1 : xs[i]? = some x) (h2 : ys[i]? = some y) : (xs.zip ys)[i]? = some (x, y) := by
  rw [List.getElem?_zip_eq_some]
  exact ⟨h1, h2⟩
theorem zip_len {α β : Type} {xs : List α} {ys : List β} {n : Nat} (h : xs.length = ys.length) (e : n = xs.length) : n = (xs.zip ys).length := by
  rw [List.length_zip, ← h, Nat.min_self]
  exact e
theorem zlen {α β : Type} {vs ws : List V} {xs : List α} {ys : List β} (a : vs.length = xs.length) (b : ws.length = ys.length) (h : xs.length = ys.length) : vs.length = ws.length := by rw [a, b, h]
section
variable {t : TT} {ta tb : TE} {σ : L2.St} {H : Hp}
theorem vv_ifP {p : Prop} [Decidable p] {a b : Int} (ht : Ans t σ H (decide p)) (hx : p → Val ta σ H (.int a)) (hy : ¬ p → Val tb σ H (.int b)) : Val (tIf t ta tb) σ H (.int (if p then a else b)) := by
  by_cases h : p
  · have := vv_if (p := p) (a := a) (b := a) ht (hx h) (tb := ta) (hx h)
    intro Q q
    refine ht _ ?_
    rw [decide_eq_true h, if_pos rfl]
    rw [if_pos h] at q
    exact hx h _ q
  · intro Q q
    refine ht _ ?_
    rw [decide_eq_false h, if_neg Bool.false_ne_true]
    rw [if_neg h] at q
    exact hy h _ q
theorem vv_ifQ {c : Bool} {a b : Int} (ht : Ans t σ H c) (hx : c = true → Val ta σ H (.int a)) (hy : c = false → Val tb σ H (.int b)) : Val (tIf t ta tb) σ H (.int (if c = true then a else b)) := by
  intro Q q
  refine ht _ ?_
  cases c with
  | true =>
    rw [if_pos rfl]
    rw [if_pos rfl] at q
    exact hx rfl _ q
  | false =>
    rw [if_neg Bool.false_ne_true]
    rw [if_neg Bool.false_ne_true] at q
    exact hy rfl _ q
end
theorem kit_mk0 {K : PySem.W.Frag} {S C : Addr} (h1 : (Value.ref S == Value.ref C) = false) (h2 : PySem.W.isClsIn K C = true) (h3 : PySem.W.typeIn K (.ref C) = some (.type "type")) (h4 : PySem.W.subIn K (.ref S) (.ref C) = some false) :
    PySem.W.kitOne K (.ref S) (.ref C) = some false := by
  unfold PySem.W.isClsIn at h2
  unfold PySem.W.kitOne
  rw [if_neg (by rw [h1]; exact Bool.false_ne_true)]
  unfold PySem.W.kitCls
  simp only [h2, h3, h4, beq_self_eq_true, Bool.and_self, if_true]
theorem vv_call2 {ta tb : TE} {σ : L2.St} {H : Hp} {x y z : V} {r : List V → Hp → VK → Prop} (ha : Val ta σ H x) (hb : Val tb σ H y) (hr : ∀ Q : VK, Q z H → r [x, y] H Q) : Val (tCB r (tCons ta (tCons tb tNil))) σ H z := fun Q q => ha _ (hb _ (hr Q q))
/-! ### lists of data that the caller owns; values that are a truth value or a number -/
theorem Sep.stepnew {M : List Addr} {H0 G0 G H H' : Hp} {O : List Addr} {p : Addr} {o : HO} (S : Sep M H0 G0 G H O) {G' : Hp} (e : Same H H') (eG : Same G G') (sG : Same G' H') (hn : ∀ b, H b ≠ none → G b = none → G' b = none) (_n : H p = none) (h : H' p = some o) (g : G' p = none) (hm : H0 p = none) : Sep M H0 G0 G' H' (p :: O) := by
  have S2 := S.step e eG sG hn
  refine ⟨S2.base, S2.pm, S2.sG, S2.g0, S2.gn, fun a ha => ?_⟩
  rcases List.mem_cons.mp ha with rfl | ha
  · exact ⟨g, (fun z => by rw [z] at h; cases h), .inr hm⟩
  · exact S2.ow a ha
inductive Bi where
  | b (x : Bool)
  | n (i : Int)
deriving DecidableEq
def biV : Bi → V
  | .b x => .bl x
  | .n i => .int i
def Bi.el {α : Type} (v : Bi) (f : Bool → α) (g : Int → α) : α :=
  match v with
  | .b x => f x
  | .n i => g i
theorem cW_elb {α : Type} {x : Bool} {f : Bool → Rx α} {g : Int → Rx α} {K : α → Prop} {E : Nat → Prop} (h : cW (Bi.el (.b x) f g) K E) : cW (f x) K E := h
theorem cW_eln {α : Type} {x : Int} {f : Bool → Rx α} {g : Int → Rx α} {K : α → Prop} {E : Nat → Prop} (h : cW (Bi.el (.n x) f g) K E) : cW (g x) K E := h
theorem rp_tup4 {α β γ δ : Type} {f : α → PyData} {g : β → PyData} {h : γ → PyData} {i : δ → PyData} {H : Hp} {v : V} {x : α × β × γ × δ} (r : Rp H v (encT4 f g h i x)) : ∃ a v1 v2 v3 v4, v = .ref a ∧ H a = some (.tup [v1, v2, v3, v4]) ∧ Rp H v1 (f x.1) ∧ Rp H v2 (g x.2.1) ∧ Rp H v3 (h x.2.2.1) ∧ Rp H v4 (i x.2.2.2) := by
  unfold encT4 at r
  cases r with
  | tup h1 h2 =>
    cases h2 with
    | cons a b =>
      cases b with
      | cons b c =>
        cases c with
        | cons c d =>
          cases d with
          | cons d e =>
            cases e
            exact ⟨_, _, _, _, _, rfl, h1, a, b, c, d⟩
theorem rp_mk4 {α β γ δ : Type} {f : α → PyData} {g : β → PyData} {h : γ → PyData} {i : δ → PyData} {H : Hp} {a : Addr} {v1 v2 v3 v4 : V} {x : α} {y : β} {z : γ} {w : δ} (h1 : H a = some (.tup [v1, v2, v3, v4])) (r1 : Rp H v1 (f x)) (r2 : Rp H v2 (g y)) (r3 : Rp H v3 (h z)) (r4 : Rp H v4 (i w)) : Rp H (.ref a) (encT4 f g h i (x, y, z, w)) := .tup h1 (.cons r1 (.cons r2 (.cons r3 (.cons r4 .nil))))
theorem Sep.b0M {M : List Addr} {H0 G0 G H : Hp} {O : List Addr} (S : Sep M H0 G0 G H O) (h : ∀ a ∈ M, H a = H0 a) : Same H0 H := fun b o e => by
  by_cases z : b ∈ M
  · rw [h b z]
    exact e
  · exact S.base b o e z
section
variable {X : Cx} {k j n : Nat} {f C : Addr} {fd : FuncData} {ps ks : List Str} {g : List V → List V → List V} {sp : Sp} {x m : Str} {pos p apos : Pos} {e o : Expr} {es : List Expr} {kws : List Keyword} {ta : TE} {t tk : TA} {W : WX}
/-- keywords alone -/
theorem vx_makeXK {pats : List Pat} (c : MakX X.prog X.w X.K X.mg X.base k x C sp pats) (pt : Pat) (hpt : pt ∈ pats) (hr : RoomG j X.A) (hk : k + 1 ≤ j) (tkW : Takes X W) (hg : Gl X x) (hkw : PK X kws tk)
    (hall : (backToKw pos (keywordEach kws X.env)).all (·.1.isSome) = true := by rfl) (hks : (backToKw pos (keywordEach kws X.env)).filterMap (·.1) = pt.2.1 := by rfl) (hdb : (x == ("__debug__" : Str)) = false := by decide)
    (hpl : ((backTo pos (starEach [] X.env)).any (·.1) || (backToKw pos (keywordEach kws X.env)).any (·.1.isNone)) = false := by rfl) :
    PE X (.Call (.Name x p) [] kws pos) (tMakeX C pt.1 pt.2.1.length sp pt.2.2 W tNil tk) := by
  obtain ⟨f, fd, ps, M, F, hm, b⟩ := c.ex
  refine ⟨fun pins s σ H Q I h => ?_⟩
  refine wpAny_Call_Name_kw (ld_glob I hg hm ?_ hdb)
  refine PySem.W.callWith_KW0 (h₀ := X.base) I.ok.mod.kin M.kp hall ?_ hpl
  refine thn (hkw.run pos pins s σ H _ I h) fun ws s2 ⟨zs, H2, I2, rz, l1, l2, q2⟩ => ⟨I2.kIn, ?_⟩
  rw [hks]
  exact run_mkX (us := []) (vs := []) M F (hr.low hk) (b pt hpt) tkW I2 .nil rz l1 l2 q2
theorem vx_callXK {pats : List Pat} (c : CalX X.prog X.w X.K X.mg X.base k x sp pats) (pt : Pat) (hpt : pt ∈ pats) (hr : RoomG j X.A) (hk : k ≤ j) (tkW : Takes X W) (hg : Gl X x) (hkw : PK X kws tk)
    (hall : (backToKw pos (keywordEach kws X.env)).all (·.1.isSome) = true := by rfl) (hks : (backToKw pos (keywordEach kws X.env)).filterMap (·.1) = pt.2.1 := by rfl) (hdb : (x == ("__debug__" : Str)) = false := by decide)
    (hpl : ((backTo pos (starEach [] X.env)).any (·.1) || (backToKw pos (keywordEach kws X.env)).any (·.1.isNone)) = false := by rfl) :
    PE X (.Call (.Name x p) [] kws pos) (tCallX pt.1 pt.2.1.length sp pt.2.2 W tNil tk) := by
  obtain ⟨f, fd, ps, F, hm, kp, b⟩ := c.ex
  refine ⟨fun pins s σ H Q I h => ?_⟩
  refine wpAny_Call_Name_kw (ld_glob I hg hm ?_ hdb)
  refine PySem.W.callWith_KW0 (h₀ := X.base) I.ok.mod.kin kp hall ?_ hpl
  refine thn (hkw.run pos pins s σ H _ I h) fun ws s2 ⟨zs, H2, I2, rz, l1, l2, q2⟩ => ⟨I2.kIn, ?_⟩
  rw [hks]
  exact run_X (us := []) (vs := []) F (hr.low hk) (b pt hpt) tkW I2 .nil rz l1 l2 q2
theorem vx_methXK {pats : List Pat} {pl : Sem Bool} (c : MetX X.prog X.w X.K X.mg X.base k C m sp pats) (pt : Pat) (hpt : pt ∈ pats) (hr : RoomG j X.A) (hk : k ≤ j) (tkW : Takes X W) (he : PE X o ta) (hkw : PK X kws tk)
    (hall : (backToKw pos (keywordEach kws X.env)).all (·.1.isSome) = true := by rfl) (hks : (backToKw pos (keywordEach kws X.env)).filterMap (·.1) = pt.2.1 := by rfl)
    (hpl : ((backTo pos (starEach [] X.env)).any (·.1) || (backToKw pos (keywordEach kws X.env)).any (·.1.isNone)) = false := by rfl)
    (ht : eval (.Call (.Attribute o m apos) [] kws pos) X.env = (do
      let ov ← eval o X.env
      standAt apos.atName
      let (f, first) ← holding [ov] (getMethod ov m pl)
      callWith pos f first (backTo pos (starEach [] X.env)) (backToKw pos (keywordEach kws X.env))) := by rfl) :
    PE X (.Call (.Attribute o m apos) [] kws pos) (tMethX C m pt.1 pt.2.1.length sp pt.2.2 W ta tNil tk) := by
  obtain ⟨f, fd, ps, hc, hm, F, b⟩ := c.ex
  refine ⟨fun pins s σ H Q I h => ?_⟩
  refine PySem.W.methodCall_KW (pl := pl) (thn (he.run pins s σ H _ I h) fun u s1 ⟨x, H1, I1, rx, a, dx, fs, ex, ea, l, q⟩ => ?_) ht
  subst ex
  obtain rfl : u = Value.ref a := rx
  refine getmeth_ok I1 ea hc hm l ?_
  refine PySem.W.callWith_KW0 (first := [.ref a]) (h₀ := X.base) I.ok.mod.kin hm.kp hall ?_ hpl
  refine thn (hkw.run pos pins s1 σ H1 _ I1 q) fun ws s3 ⟨zs, H3, I3, rz, l1, l2, q3⟩ => ⟨I3.kIn, ?_⟩
  rw [hks]
  exact run_X (us := [.ref a]) (vs := [.ref a]) F (hr.low hk) (b pt hpt) tkW I3 (.cons rfl .nil) rz l1 l2 q3
end
end Vx
/-! # lists within lists that are owned as a whole -/
namespace Vx
open PySem PySem.Spec PyProof.Rows L2
inductive Kd where
  | lst
  | tup
  | ins (C dx : Addr) (ns : List Str)
def Kd.ho : Kd → List V → HO
  | .lst, vs => .lst vs
  | .tup, vs => .tup vs
  | .ins C dx ns, vs => .ins C dx (ns.zip vs)
/-- what stands in the heap as a tree: values as they are, data that stay, nodes of its own -/
inductive Dt where
  | val (v : V)
  | frz (d : PyData)
  | nod (k : Kd) (xs : List Dt)
mutual
inductive Ow (G H : Hp) : List Addr → V → Dt → Prop
  | val (v : V) : Ow G H [] v (.val v)
  | frz {v : V} {d : PyData} : Rp G v d → Ow G H [] v (.frz d)
  | nod {a : Addr} {k : Kd} {vs : List V} {ds : List Dt} {L : List Addr} : H a = some (k.ho vs) → OwAll G H L vs ds → a ∉ L → Ow G H (a :: L) (.ref a) (.nod k ds)
inductive OwAll (G H : Hp) : List Addr → List V → List Dt → Prop
  | nil : OwAll G H [] [] []
  | cons {L1 L2 : List Addr} {v : V} {vs : List V} {d : Dt} {ds : List Dt} : Ow G H L1 v d → OwAll G H L2 vs ds → (∀ b ∈ L1, b ∉ L2) → OwAll G H (L1 ++ L2) (v :: vs) (d :: ds)
end
def Keeps (L : List Addr) (H H' : Hp) : Prop := ∀ b ∈ L, ∀ o, H b = some o → H' b = some o
mutual
theorem Ow.mono {G G' H H' : Hp} (e : Same G G') : ∀ {L : List Addr} {v : V} {d : Dt}, Keeps L H H' → Ow G H L v d → Ow G' H' L v d
  | _, _, _, _, .val v => .val v
  | _, _, _, _, .frz r => .frz (r.mono e)
  | _, _, _, k, .nod h r n => .nod (k _ List.mem_cons_self _ h) (OwAll.mono e (fun b hb => k b (List.mem_cons_of_mem _ hb)) r) n
theorem OwAll.mono {G G' H H' : Hp} (e : Same G G') : ∀ {L : List Addr} {vs : List V} {ds : List Dt}, Keeps L H H' → OwAll G H L vs ds → OwAll G' H' L vs ds
  | _, _, _, _, .nil => .nil
  | _, _, _, k, .cons a r d => .cons (Ow.mono e (fun b hb => k b (List.mem_append_left _ hb)) a) (OwAll.mono e (fun b hb => k b (List.mem_append_right _ hb)) r) d
end
mutual
theorem Ow.there {G H : Hp} : ∀ {L : List Addr} {v : V} {d : Dt}, Ow G H L v d → ∀ b ∈ L, H b ≠ none
  | _, _, _, .val _, _, hb => nomatch hb
  | _, _, _, .frz _, _, hb => nomatch hb
  | _, _, _, .nod h r n, b, hb => by
    rcases List.mem_cons.mp hb with rfl | hb
    · exact some_ne h
    · exact OwAll.there r b hb
theorem OwAll.there {G H : Hp} : ∀ {L : List Addr} {vs : List V} {ds : List Dt}, OwAll G H L vs ds → ∀ b ∈ L, H b ≠ none
  | _, _, _, .nil, _, hb => nomatch hb
  | _, _, _, .cons a r d, b, hb => by
    rcases List.mem_append.mp hb with hb | hb
    · exact Ow.there a b hb
    · exact OwAll.there r b hb
end
theorem OwAll.len {G H : Hp} : ∀ {L : List Addr} {vs : List V} {ds : List Dt}, OwAll G H L vs ds → vs.length = ds.length
  | _, _, _, .nil => rfl
  | _, _, _, .cons _ r _ => congrArg Nat.succ r.len
theorem OwAll.snoc {G H : Hp} {L1 : List Addr} {v : V} {d : Dt} (h : Ow G H L1 v d) : ∀ {L : List Addr} {vs : List V} {ds : List Dt}, OwAll G H L vs ds → (∀ b ∈ L, b ∉ L1) → OwAll G H (L ++ L1) (vs ++ [v]) (ds ++ [d])
  | _, _, _, .nil, _ => by
    have z : OwAll G H (L1 ++ []) [v] [d] := .cons h .nil (fun _ _ z => nomatch z)
    rw [List.append_nil] at z
    exact z
  | _, _, _, .cons (L1 := La) (L2 := Lb) a r n, k => by
    have z := OwAll.cons a (OwAll.snoc h r fun b hb => k b (List.mem_append_right _ hb)) (fun b hb q => by
      rcases List.mem_append.mp q with q | q
      · exact n b hb q
      · exact k b (List.mem_append_left _ hb) q)
    rw [← List.append_assoc] at z
    exact z
theorem OwAll.app {G H : Hp} {L2 : List Addr} {ws : List V} {es : List Dt} (h : OwAll G H L2 ws es) : ∀ {L : List Addr} {vs : List V} {ds : List Dt}, OwAll G H L vs ds → (∀ b ∈ L, b ∉ L2) → OwAll G H (L ++ L2) (vs ++ ws) (ds ++ es)
  | _, _, _, .nil, _ => h
  | _, _, _, .cons (L1 := La) (L2 := Lb) a r n, k => by
    have z := OwAll.cons a (OwAll.app h r fun b hb => k b (List.mem_append_right _ hb)) (fun b hb q => by
      rcases List.mem_append.mp q with q | q
      · exact n b hb q
      · exact k b (List.mem_append_left _ hb) q)
    rw [← List.append_assoc] at z
    exact z
/-! ### trees that are data -/
mutual
inductive Dd : Dt → PyData → Prop
  | non : Dd (.val .non) .none
  | bl (b : Bool) : Dd (.val (.bl b)) (.bool b)
  | int (i : Int) : Dd (.val (.int i)) (.int i)
  | str (x : Str) : Dd (.val (.str x)) (.str x)
  | frz (d : PyData) : Dd (.frz d) d
  | lst {xs : List Dt} {ds : List PyData} : DdAll xs ds → Dd (.nod .lst xs) (.list ds)
  | tup {xs : List Dt} {ds : List PyData} : DdAll xs ds → Dd (.nod .tup xs) (.tuple ds)
inductive DdAll : List Dt → List PyData → Prop
  | nil : DdAll [] []
  | cons {x : Dt} {xs : List Dt} {d : PyData} {ds : List PyData} : Dd x d → DdAll xs ds → DdAll (x :: xs) (d :: ds)
end
mutual
/-- read in any heap that holds its nodes -/
theorem Ow.rp {G H I : Hp} (e : Same G I) : ∀ {L : List Addr} {v : V} {d : Dt} {p : PyData}, Keeps L H I → Ow G H L v d → Dd d p → Rp I v p
  | _, _, _, _, _, .val _, .non => .non
  | _, _, _, _, _, .val _, .bl b => .bl b
  | _, _, _, _, _, .val _, .int i => .int i
  | _, _, _, _, _, .val _, .str x => .str x
  | _, _, _, _, _, .frz r, .frz _ => r.mono e
  | _, _, _, _, k, .nod h r _, .lst q => .lst (k _ List.mem_cons_self _ h) (OwAll.rp e (fun b hb => k b (List.mem_cons_of_mem _ hb)) r q)
  | _, _, _, _, k, .nod h r _, .tup q => .tup (k _ List.mem_cons_self _ h) (OwAll.rp e (fun b hb => k b (List.mem_cons_of_mem _ hb)) r q)
theorem OwAll.rp {G H I : Hp} (e : Same G I) : ∀ {L : List Addr} {vs : List V} {ds : List Dt} {ps : List PyData}, Keeps L H I → OwAll G H L vs ds → DdAll ds ps → RpAll I vs ps
  | _, _, _, _, _, .nil, .nil => .nil
  | _, _, _, _, k, .cons a r _, .cons x xs => .cons (Ow.rp e (fun b hb => k b (List.mem_append_left _ hb)) a x) (OwAll.rp e (fun b hb => k b (List.mem_append_right _ hb)) r xs)
end
def oI (i : Int) : Dt := .val (.int i)
def oB (b : Bool) : Dt := .val (.bl b)
def oF {α : Type} (f : α → PyData) (x : α) : Dt := .frz (f x)
def oL {α : Type} (f : α → Dt) (xs : List α) : Dt := .nod .lst (xs.map f)
def EncO {α : Type} (f : α → Dt) (g : α → PyData) : Prop := ∀ x, Dd (f x) (g x)
theorem encO_I : EncO oI PyData.int := fun i => .int i
theorem encO_B : EncO oB PyData.bool := fun i => .bl i
theorem encO_F {α : Type} {f : α → PyData} : EncO (oF f) f := fun _ => .frz _
theorem EncO.all {α : Type} {f : α → Dt} {g : α → PyData} (h : EncO f g) : ∀ xs : List α, DdAll (xs.map f) (xs.map g)
  | [] => .nil
  | x :: xs => .cons (h x) (EncO.all h xs)
theorem encO_L {α : Type} {f : α → Dt} {g : α → PyData} (h : EncO f g) : EncO (oL f) (encL g) := fun xs => .lst (h.all xs)
theorem keeps_same {L : List Addr} {H H' : Hp} (e : Same H H') : Keeps L H H' := fun b _ o q => e b o q
theorem keeps_refl {L : List Addr} {H : Hp} : Keeps L H H := fun _ _ _ q => q
theorem keeps_mut {L : List Addr} {H H' : Hp} {m : Addr} (x : SameX m H H') (n : ∀ b ∈ L, b ≠ m) : Keeps L H H' := fun b hb o q => x b o q (n b hb)
theorem keeps_muts {L M : List Addr} {H H' : Hp} (x : SameXs M H H') (n : ∀ b ∈ L, b ∉ M) : Keeps L H H' := fun b hb o q => x b o q (n b hb)
theorem keeps_hide {L M : List Addr} {H : Hp} (n : ∀ b ∈ L, b ∉ M) : Keeps L H (hideL M H) := fun b hb o q => by
  rw [hideL_out (n b hb)]
  exact q
section
variable {α : Type} {f : α → Dt} {g : α → PyData} {G H I : Hp} {L : List Addr} {vs : List V} {xs : List α}
theorem OwAll.rpA (w : OwAll G H L vs (xs.map f)) (h : EncO f g) (e : Same G H) : RpAll H vs (xs.map g) := OwAll.rp e keeps_refl w (h.all xs)
theorem OwAll.rpH (w : OwAll G H L vs (xs.map f)) (h : EncO f g) (e : Same G I) (k : Keeps L H I) : RpAll I vs (xs.map g) := OwAll.rp e k w (h.all xs)
theorem OwAll.lenM (w : OwAll G H L vs (xs.map f)) : vs.length = xs.length := by rw [w.len, List.length_map]
theorem OwAll.snocM {L1 : List Addr} {v : V} {y : α} (w : OwAll G H L vs (xs.map f)) (h : Ow G H L1 v (f y)) (n : ∀ b ∈ L, b ∉ L1) : OwAll G H (L ++ L1) (vs ++ [v]) ((xs ++ [y]).map f) := by
  rw [List.map_append]
  exact OwAll.snoc h w n
theorem Ow.ints {a : Addr} {ys : List Int} (h : H a = some (.lst (ys.map V.int))) : Ow G H [a] (.ref a) (oL oI ys) := by
  have z : ∀ ys : List Int, OwAll G H [] (ys.map V.int) (ys.map oI) := fun ys => by
    induction ys with
    | nil => exact .nil
    | cons y r ih => exact .cons (L1 := []) (L2 := []) (.val _) ih (fun _ z => nomatch z)
  exact .nod (k := .lst) h (z ys) (fun z => nomatch z)
theorem Ow.list {a : Addr} {xs : List α} {L : List Addr} {vs : List V} (h : H a = some (.lst vs)) (w : OwAll G H L vs (xs.map f)) (n : ∀ b ∈ L, b ≠ a) : Ow G H (a :: L) (.ref a) (oL f xs) := .nod (k := .lst) h w (fun z => n a z rfl)
theorem Ow.toList {v : V} {L : List Addr} {xs : List α} (w : Ow G H L v (oL f xs)) : ∃ a vs L', v = .ref a ∧ L = a :: L' ∧ H a = some (.lst vs) ∧ OwAll G H L' vs (xs.map f) ∧ ∀ b ∈ L', b ≠ a := by
  unfold oL at w
  cases w with
  | nod h r n => exact ⟨_, _, _, rfl, rfl, h, r, fun b hb z => n (z ▸ hb)⟩
theorem OwAll.toInts : ∀ {L : List Addr} {vs : List V} {xs : List Int}, OwAll G H L vs (xs.map oI) → L = [] ∧ vs = xs.map V.int
  | _, _, [], .nil => ⟨rfl, rfl⟩
  | _, _, x :: xs, .cons a r _ => by
    obtain ⟨h1, h2⟩ := OwAll.toInts r
    cases a
    exact ⟨by rw [h1] <;> rfl, by rw [h2] <;> rfl⟩
theorem Ow.toInts {v : V} {L : List Addr} {xs : List Int} (w : Ow G H L v (oL oI xs)) : ∃ a, v = .ref a ∧ L = [a] ∧ H a = some (.lst (xs.map V.int)) := by
  obtain ⟨a, vs, L', rfl, rfl, h, r, _⟩ := w.toList
  obtain ⟨rfl, rfl⟩ := r.toInts
  exact ⟨a, rfl, rfl, h⟩
/-- the part at a place, and how a change of it alone changes the whole -/
theorem OwAll.part : ∀ {L : List Addr} {vs : List V} {ds : List Dt} {i : Nat} {d : Dt}, OwAll G H L vs ds → ds[i]? = some d → ∃ v L1, vs[i]? = some v ∧ Ow G H L1 v d ∧ (∀ b ∈ L1, b ∈ L) ∧
    ∀ H' d', (∀ b ∈ L, b ∉ L1 → ∀ o, H b = some o → H' b = some o) → Ow G H' L1 v d' → OwAll G H' L vs (ds.set i d')
  | _, _, _, _, _, .nil, h => by simp at h
  | _, _, _, 0, _, .cons (L1 := La) (L2 := Lb) a r n, h => by
    simp at h
    subst h
    refine ⟨_, La, rfl, a, fun b hb => List.mem_append_left _ hb, fun H' d' k w => ?_⟩
    exact .cons w (OwAll.mono (Same.refl G) (fun b hb => k b (List.mem_append_right _ hb) fun z => n b z hb) r) n
  | _, _, _, i + 1, _, .cons (L1 := La) (L2 := Lb) a r n, h => by
    obtain ⟨v, L1, h1, h2, h3, h4⟩ := OwAll.part (i := i) r (by simpa using h)
    refine ⟨v, L1, by simpa using h1, h2, fun b hb => List.mem_append_right _ (h3 b hb), fun H' d' k w => ?_⟩
    refine .cons (Ow.mono (Same.refl G) (fun b hb => k b (List.mem_append_left _ hb) fun z => n b hb (h3 b z)) a) (h4 H' d' (fun b hb nb => k b (List.mem_append_right _ hb) nb) w) n
/-- the same, where the part grows: its new footprint is the old one and what is new -/
theorem OwAll.part2 : ∀ {L : List Addr} {vs : List V} {ds : List Dt} {i : Nat} {d : Dt}, OwAll G H L vs ds → ds[i]? = some d → ∃ v L1, vs[i]? = some v ∧ Ow G H L1 v d ∧ (∀ b ∈ L1, b ∈ L) ∧
    (∀ H' d', (∀ b ∈ L, b ∉ L1 → ∀ o, H b = some o → H' b = some o) → Ow G H' L1 v d' → OwAll G H' L vs (ds.set i d')) ∧
    ∀ H' d' Fv L1', (∀ b ∈ L, b ∉ L1 → ∀ o, H b = some o → H' b = some o) → (∀ b ∈ L1', b ∈ L1 ++ Fv) → (∀ b ∈ Fv, b ∉ L) → Ow G H' L1' v d' → ∃ L', (∀ b ∈ L', b ∈ L ++ Fv) ∧ OwAll G H' L' vs (ds.set i d')
  | _, _, _, _, _, .nil, h => by simp at h
  | _, _, _, 0, _, .cons (L1 := La) (L2 := Lb) a r n, h => by
    simp at h
    subst h
    refine ⟨_, La, rfl, a, fun b hb => List.mem_append_left _ hb, fun H' d' k w => ?_, fun H' d' Fv L1' k s nf w => ⟨L1' ++ Lb, fun b hb => ?_, ?_⟩⟩
    · exact .cons w (OwAll.mono (Same.refl G) (fun b hb => k b (List.mem_append_right _ hb) fun z => n b z hb) r) n
    · rcases List.mem_append.mp hb with hb | hb
      · rcases List.mem_append.mp (s b hb) with q | q
        · exact List.mem_append_left _ (List.mem_append_left _ q)
        · exact List.mem_append_right _ q
      · exact List.mem_append_left _ (List.mem_append_right _ hb)
    · refine .cons w (OwAll.mono (Same.refl G) (fun b hb => k b (List.mem_append_right _ hb) fun z => n b z hb) r) fun b hb q => ?_
      rcases List.mem_append.mp (s b hb) with z | z
      · exact n b z q
      · exact nf b z (List.mem_append_right _ q)
  | _, _, _, i + 1, _, .cons (L1 := La) (L2 := Lb) a r n, h => by
    obtain ⟨v, L1, h1, h2, h3, h4, h5⟩ := OwAll.part2 (i := i) r (by simpa using h)
    refine ⟨v, L1, by simpa using h1, h2, fun b hb => List.mem_append_right _ (h3 b hb), fun H' d' k w => ?_, fun H' d' Fv L1' k s nf w => ?_⟩
    · refine .cons (Ow.mono (Same.refl G) (fun b hb => k b (List.mem_append_left _ hb) fun z => n b hb (h3 b z)) a) (h4 H' d' (fun b hb nb => k b (List.mem_append_right _ hb) nb) w) n
    · obtain ⟨L', s2, z⟩ := h5 H' d' Fv L1' (fun b hb nb => k b (List.mem_append_right _ hb) nb) s (fun b hb q => nf b hb (List.mem_append_right _ q)) w
      refine ⟨La ++ L', fun b hb => ?_, .cons (Ow.mono (Same.refl G) (fun b hb => k b (List.mem_append_left _ hb) fun z => n b hb (h3 b z)) a) z fun b hb q => ?_⟩
      · rcases List.mem_append.mp hb with hb | hb
        · exact List.mem_append_left _ (List.mem_append_left _ hb)
        · rcases List.mem_append.mp (s2 b hb) with q | q
          · exact List.mem_append_left _ (List.mem_append_right _ q)
          · exact List.mem_append_right _ q
      · rcases List.mem_append.mp (s2 b q) with y | y
        · exact n b hb y
        · exact nf b y (List.mem_append_left _ hb)
theorem OwAll.partM [Inhabited α] {k : Int} (w : OwAll G H L vs (xs.map f)) (h : -(xs.length : Int) ≤ k ∧ k < xs.length) : ∃ v L1, atI vs k = some v ∧ Ow G H L1 v (f (itD xs k)) ∧ (∀ b ∈ L1, b ∈ L) ∧
    (∀ H' y, (∀ b ∈ L, b ∉ L1 → ∀ o, H b = some o → H' b = some o) → Ow G H' L1 v (f y) → OwAll G H' L vs ((setL xs k y).map f)) ∧
    ∀ H' y Fv L1', (∀ b ∈ L, b ∉ L1 → ∀ o, H b = some o → H' b = some o) → (∀ b ∈ L1', b ∈ L1 ++ Fv) → (∀ b ∈ Fv, b ∉ L) → Ow G H' L1' v (f y) → ∃ L', (∀ b ∈ L', b ∈ L ++ Fv) ∧ OwAll G H' L' vs ((setL xs k y).map f) := by
  obtain ⟨j, e, hj⟩ := ixN_some h
  have hx := List.getElem?_eq_getElem hj
  obtain ⟨v, L1, h1, h2, h3, h4, h5⟩ := OwAll.part2 (i := j) (d := f xs[j]) w (by rw [List.getElem?_map, hx] <;> rfl)
  have ei : itD xs k = xs[j] := by
    unfold itD atI
    rw [e]
    show (xs[j]?).getD default = _
    rw [hx] <;> rfl
  refine ⟨v, L1, ?_, by rw [ei]; exact h2, h3, fun H' y q w2 => ?_, fun H' y Fv L1' q s nf w2 => ?_⟩
  · unfold atI
    rw [w.lenM, e]
    exact h1
  · have z := h4 H' (f y) q w2
    unfold setL
    rw [e, List.map_set]
    exact z
  · obtain ⟨L', s2, z⟩ := h5 H' (f y) Fv L1' q s nf w2
    refine ⟨L', s2, ?_⟩
    unfold setL
    rw [e, List.map_set]
    exact z
theorem grow_keeps {L L1 : List Addr} {m : Addr} {H H1 H2 : Hp} (e : Same H H1) (x : SameX m H1 H2) (hm : m ∈ L1) : ∀ b ∈ L, b ∉ L1 → ∀ o, H b = some o → H2 b = some o := fun b _ n o q => x b o (e b o q) (fun z => n (z ▸ hm))
theorem grow_sub {a : Addr} {L' Lr Fv : List Addr} (h : ∀ b ∈ L', b ∈ Lr ++ Fv) : ∀ b ∈ a :: L', b ∈ (a :: Lr) ++ Fv := fun b hb => by
  rcases List.mem_cons.mp hb with rfl | hb
  · exact List.mem_cons_self
  · exact List.mem_cons_of_mem _ (h b hb)
/-- the item of a turn -/
theorem OwAll.turn {i : Nat} {v : V} (w : OwAll G H L vs (xs.map f)) (h : vs[i]? = some v) : ∃ x L1, xs[i]? = some x ∧ Ow G H L1 v (f x) ∧ ∀ b ∈ L1, b ∈ L := by
  have hl := get_len h
  have e := w.lenM
  have hx := List.getElem?_eq_getElem (show i < xs.length by omega)
  obtain ⟨v2, L1, h1, h2, h3, _⟩ := OwAll.part (i := i) (d := f xs[i]) w (by rw [List.getElem?_map, hx] <;> rfl)
  rw [h] at h1
  cases h1
  exact ⟨_, L1, hx, h2, h3⟩
end
/-! ### what is owned, in pieces -/
theorem all_app {P : Addr → Prop} {L l : List Addr} (h : ∀ x ∈ L, P x) (t : ∀ x ∈ l, P x) : ∀ x ∈ L ++ l, P x := fun x hx => by
  rcases List.mem_append.mp hx with q | q
  · exact h x q
  · exact t x q
theorem nm_nil {a : Addr} : a ∉ ([] : List Addr) := fun z => nomatch z
theorem nm_cons {a m : Addr} {l : List Addr} (h : a ≠ m) (t : a ∉ l) : a ∉ m :: l := fun z => by
  rcases List.mem_cons.mp z with q | q
  · exact h q
  · exact t q
theorem nm_app {a : Addr} {L l : List Addr} (h : a ∉ L) (t : a ∉ l) : a ∉ L ++ l := fun z => by
  rcases List.mem_append.mp z with q | q
  · exact h q
  · exact t q
theorem there_ne {H : Hp} {L : List Addr} {x : Addr} (t : ∀ b ∈ L, H b ≠ none) (n : H x = none) : ∀ b ∈ L, b ≠ x := fun b hb z => t b hb (z ▸ n)
theorem new_ne {H : Hp} {L : List Addr} {x : Addr} {o : HO} (n : ∀ b ∈ L, H b = none) (h : H x = some o) : ∀ b ∈ L, b ≠ x := fun b hb z => by
  have := n b hb
  rw [z, h] at this
  cases this
theorem new_nl {H : Hp} {L L2 : List Addr} (n : ∀ b ∈ L, H b = none) (t : ∀ b ∈ L2, H b ≠ none) : ∀ b ∈ L, b ∉ L2 := fun b hb z => t b z (n b hb)
theorem nl_symm {L L2 : List Addr} (h : ∀ b ∈ L, b ∉ L2) : ∀ b ∈ L2, b ∉ L := fun b hb z => h b z hb
theorem none_of_same {H H' : Hp} {x : Addr} (e : Same H H') (n : H' x = none) : H x = none := by
  cases q : H x with
  | none => rfl
  | some o =>
    rw [e x o q] at n
    cases n
section
variable {M : List Addr} {H0 G0 G H H' : Hp} {O L : List Addr} {p m : Addr} {o : HO}
theorem Sep.h0 (S : Sep M H0 G0 G H O) {b : Addr} (hb : b ∈ O) (hM : b ∉ M) : H0 b = none := (S.ow b hb).2.2.elim (fun z => (hM z).elim) id
theorem g_nl {a : Addr} {o : HO} (h : G a = some o) (S : Sep M H0 G0 G H O) (hL : ∀ b ∈ L, b ∈ O) : ∀ b ∈ L, b ≠ a := fun b hb => (g_ne h S (hL b hb)).symm
theorem b_nl {a : Addr} {o : HO} (h : (hideL M H0) a = some o) (S : Sep M H0 G0 G H O) (hL : ∀ b ∈ L, b ∈ O) : ∀ b ∈ L, b ≠ a := fun b hb => (b_ne h S (hL b hb)).symm
/-- a whole tree that is to stay as it is -/
theorem Sep.freezeL (S : Sep M H0 G0 G H O) {O' : List Addr} (hL : ∀ b ∈ L, b ∈ O) (h0 : ∀ b ∈ L, H0 b = none) (hO : ∀ b ∈ O', b ∈ O ∧ b ∉ L) : ∃ G', Same G G' ∧ Keeps L H G' ∧ Sep M H0 G0 G' H O' := by
  have gn : ∀ b ∈ L, G b = none := fun b hb => (S.ow b (hL b hb)).1
  refine ⟨fun b => if b ∈ L then H b else G b, fun b u q => ?_, fun b hb u q => ?_, S.base, S.pm, fun b u q => ?_, fun b u q => ?_, fun b hb gb => ?_, fun a ha => ?_⟩
  · have n : b ∉ L := fun z => by
      rw [gn b z] at q
      cases q
    show (if b ∈ L then H b else G b) = _
    rw [if_neg n]
    exact q
  · show (if b ∈ L then H b else G b) = _
    rw [if_pos hb]
    exact q
  · by_cases z : b ∈ L
    · exact (if_pos z).symm.trans q
    · exact S.sG b u ((if_neg z).symm.trans q)
  · have z : b ∉ L := fun z => by
      have := S.g0 b u q
      rw [gn b z] at this
      cases this
    show (if b ∈ L then H b else G b) = _
    rw [if_neg z]
    exact S.g0 b u q
  · have z : b ∉ L := fun z => hb (h0 b z)
    show (if b ∈ L then H b else G b) = _
    rw [if_neg z]
    exact S.gn b hb gb
  · obtain ⟨h1, h2⟩ := hO a ha
    refine ⟨?_, (S.ow a h1).2⟩
    show (if a ∈ L then H a else G a) = _
    rw [if_neg h2]
    exact (S.ow a h1).1
/-- a callee hands over a list of lists of its own making -/
theorem Sep.steptree (S : Sep M H0 G0 G H O) {G' : Hp} (e : Same H H') (eG : Same G G') (sG : Same G' H') (hn : ∀ b, H b ≠ none → G b = none → G' b = none) (L : List Addr) (hL : ∀ b ∈ L, H b = none ∧ G' b = none ∧ H' b ≠ none) : Sep M H0 G0 G' H' (L ++ O) := by
  have S2 := S.step e eG sG hn
  refine ⟨S2.base, S2.pm, S2.sG, S2.g0, S2.gn, all_app (fun b hb => ⟨(hL b hb).2.1, (hL b hb).2.2, .inr (S.free (hL b hb).1)⟩) S2.ow⟩
end
theorem Rp.list_of {α : Type} {g : α → PyData} {H : Hp} {a : Addr} {vs : List V} {xs : List α} (h : H a = some (.lst vs)) (r : RpAll H vs (xs.map g)) : Rp H (.ref a) (encL g xs) := .lst h r
/-! ### repr of data -/
mutual
def nodes : PyData → Nat
  | .list xs => 1 + nodesAll xs
  | .tuple xs => 1 + nodesAll xs
  | _ => 1
def nodesAll : List PyData → Nat
  | [] => 0
  | x :: xs => nodes x + nodesAll xs
end
mutual
def smallD : PyData → Bool
  | .none => true
  | .bool _ => true
  | .int i => decide (i.natAbs < 10 ^ 19)
  | .str x => decide ((reprText x).length ≤ 20)
  | .list xs => smallAll xs
  | .tuple xs => smallAll xs
  | _ => false
def smallAll : List PyData → Bool
  | [] => true
  | x :: xs => smallD x && smallAll xs
end
theorem piled_list (ts : List Str) : (listText ts).length ≤ piled ts + 2 := by
  cases ts with
  | nil => exact Nat.le_refl 2
  | cons t r =>
    have e : (listText (t :: r)).length = (textFrom 1 ("[" ++ ("" : String) ++ t) r).length + 1 := by
      show (textFrom 0 "[" (t :: r) ++ "]").length = _
      rw [strLen_append]
      rfl
    rw [e, textFrom_length_pos r 1 _ (by decide), piled_cons, strLen_append, strLen_append]
    have h1 : (("[" : String) : Str).length = 1 := rfl
    have h2 : (("" : String) : Str).length = 0 := rfl
    omega
theorem piled_tup (ts : List Str) : (tupleText ts).length ≤ piled ts + 3 := by
  unfold tupleText
  rw [strLen_append, strLen_append]
  have h1 : (("(" : String) : Str).length = 1 := rfl
  have h2 : (((if ts.length == 1 then ",)" else ")" : String) : Str)).length ≤ 2 := by split <;> decide
  by_cases h : ts = []
  · subst h
    exact Nat.le_of_lt (by decide)
  · have := join_length_add ts h
    omega
mutual
theorem small_shown : ∀ d : PyData, smallD d = true → d.shown.length + 4 ≤ 26 * nodes d ∧ d.showable = true ∧ d.hasDict = false
  | .none, _ => ⟨by simp only [PyData.shown, nodes]; decide, by simp [PyData.showable], by simp [PyData.hasDict]⟩
  | .bool b, _ => ⟨by cases b <;> simp only [PyData.shown, nodes] <;> decide, by simp [PyData.showable], by simp [PyData.hasDict]⟩
  | .int i, h => by
    have h : i.natAbs < 10 ^ 19 := by simpa [smallD] using h
    refine ⟨?_, ?_, by simp [PyData.hasDict]⟩
    · have := int_text_length_le10 (k := 19) (by decide) h
      simp only [PyData.shown, nodes]
      rw [PySem.ofString_length]
      omega
    · simp only [PyData.showable, decide_eq_true_eq]
      have : i.natAbs < 2 ^ 64 := by omega
      rcases Nat.eq_zero_or_pos i.natAbs with z | z
      · rw [z]
        decide
      · have := (Nat.log2_lt (by omega)).mpr this
        omega
  | .str x, h => by
    have h : (reprText x).length ≤ 20 := by simpa [smallD] using h
    refine ⟨by simp only [PyData.shown, nodes]; omega, by simp [PyData.showable], by simp [PyData.hasDict]⟩
  | .list xs, h => by
    obtain ⟨h1, h2, h3⟩ := small_shownAll xs (by simpa [smallD] using h)
    refine ⟨?_, by simpa [PyData.showable] using h2, by simpa [PyData.hasDict] using h3⟩
    have := piled_list (PyData.shownAll xs)
    simp only [PyData.shown, nodes]
    omega
  | .tuple xs, h => by
    obtain ⟨h1, h2, h3⟩ := small_shownAll xs (by simpa [smallD] using h)
    refine ⟨?_, by simpa [PyData.showable] using h2, by simpa [PyData.hasDict] using h3⟩
    have := piled_tup (PyData.shownAll xs)
    simp only [PyData.shown, nodes]
    omega
  | .dict kvs, h => by simp [smallD] at h
theorem small_shownAll : ∀ ds : List PyData, smallAll ds = true → piled (PyData.shownAll ds) ≤ 26 * nodesAll ds ∧ PyData.showableAll ds = true ∧ PyData.hasDictAll ds = false
  | [], _ => ⟨by simp [PyData.shownAll, nodesAll, piled], by simp [PyData.showableAll], by simp [PyData.hasDictAll]⟩
  | d :: ds, h => by
    have h : smallD d = true ∧ smallAll ds = true := by simpa [smallAll] using h
    obtain ⟨a1, a2, a3⟩ := small_shown d h.1
    obtain ⟨b1, b2, b3⟩ := small_shownAll ds h.2
    refine ⟨?_, by simp [PyData.showableAll, a2, b2], by simp [PyData.hasDictAll, a3, b3]⟩
    simp only [PyData.shownAll, nodesAll, piled_cons]
    omega
end
/-- data that repr may show -/
def ShowOk (d : PyData) : Prop := smallD d = true ∧ nodes d ≤ 600000 ∧ d.depth ≤ 60
instance (d : PyData) : Decidable (ShowOk d) := by unfold ShowOk; infer_instance
def rRepr : List V → Hp → VK → Prop := fun xs H Q => ∃ (a : Addr) (d : PyData), xs = [.ref a] ∧ Rp H (.ref a) d ∧ ShowOk d ∧ Q (.str d.shown) H
theorem call_reprD {X : Cx} (hg : X.A.guards = some []) (hu : X.A.units + 64 < cLine) : CallR X (.builtin "repr") rRepr := by
  intro pins s σ H xs us Q I r h
  obtain ⟨a, d, rfl, rp, ⟨ok, nd, dp⟩, q⟩ := h
  obtain ⟨h1, h2, h3⟩ := small_shown d ok
  cases r with
  | cons ra rn =>
    cases rn
    cases ra
    obtain ⟨as, reads⟩ := Dp.reads I d _ _ rp.dp rfl
    refine repr_of_reads' reads h2 (PyData.noDict_hsm h3) hg (by omega) (fun _ _ e => e) (fun h' u tk k => ⟨.str d.shown, H, I.kept k, ⟨u, rfl⟩, q⟩) ?_
    show d.shown.length ≤ 2 ^ 24
    omega
/-- small data: nodes, depth -/
def Sm (n k : Nat) (d : PyData) : Prop := smallD d = true ∧ nodes d ≤ n ∧ d.depth ≤ k
theorem Sm.imp {n k n' k' : Nat} {d : PyData} (h : Sm n k d) (a : n ≤ n') (b : k ≤ k') : Sm n' k' d := ⟨h.1, Nat.le_trans h.2.1 a, Nat.le_trans h.2.2 b⟩
theorem Sm.show {n k : Nat} {d : PyData} (h : Sm n k d) (a : n ≤ 600000 := by decide) (b : k ≤ 60 := by decide) : ShowOk d := h.imp a b
theorem sm_non : Sm 1 0 .none := ⟨by simp [smallD], by simp [nodes], by simp [PyData.depth]⟩
theorem sm_bool (b : Bool) : Sm 1 0 (.bool b) := ⟨by simp [smallD], by simp [nodes], by simp [PyData.depth]⟩
theorem sm_int {i : Int} (h : -10000000000000000000 < i ∧ i < 10000000000000000000) : Sm 1 0 (.int i) := ⟨by simp only [smallD, decide_eq_true_eq]; omega, by simp [nodes], by simp [PyData.depth]⟩
theorem sm_all {α : Type} {f : α → PyData} {n k : Nat} : ∀ {xs : List α}, (∀ x ∈ xs, Sm n k (f x)) → smallAll (xs.map f) = true ∧ nodesAll (xs.map f) ≤ xs.length * n ∧ PyData.depthAll (xs.map f) ≤ k
  | [], _ => ⟨by simp [smallAll], by simp [nodesAll], by simp [PyData.depthAll]⟩
  | x :: xs, h => by
    obtain ⟨a1, a2, a3⟩ := h x List.mem_cons_self
    obtain ⟨b1, b2, b3⟩ := sm_all fun y hy => h y (List.mem_cons_of_mem _ hy)
    refine ⟨by simp [smallAll, a1, b1], ?_, ?_⟩
    · simp only [List.map_cons, nodesAll, List.length_cons, Nat.succ_mul]
      omega
    · simp only [List.map_cons, PyData.depthAll]
      omega
theorem sm_L {α : Type} {f : α → PyData} {n k m : Nat} {xs : List α} (h : ∀ x ∈ xs, Sm n k (f x)) (hm : xs.length ≤ m) : Sm (1 + m * n) (k + 1) (encL f xs) := by
  obtain ⟨a1, a2, a3⟩ := sm_all h
  refine ⟨by simp [encL, smallD, a1], ?_, ?_⟩
  · have := Nat.mul_le_mul_right n hm
    simp only [encL, nodes]
    omega
  · simp only [encL, PyData.depth]
    omega
theorem sm_ints {xs : List Int} {m : Nat} (h : ∀ x ∈ xs, -10000000000000000000 < x ∧ x < 10000000000000000000) (hm : xs.length ≤ m) : Sm (1 + m * 1) 1 (encL PyData.int xs) := sm_L (fun x hx => sm_int (h x hx)) hm
theorem sm_T2 {α β : Type} {f : α → PyData} {g : β → PyData} {n k m j : Nat} {p : α × β} (h1 : Sm n k (f p.1)) (h2 : Sm m j (g p.2)) : Sm (1 + n + m) (max k j + 1) (encT2 f g p) := by
  obtain ⟨a1, a2, a3⟩ := h1
  obtain ⟨b1, b2, b3⟩ := h2
  refine ⟨by simp [encT2, smallD, smallAll, a1, b1], ?_, ?_⟩
  · simp only [encT2, nodes, nodesAll]
    omega
  · simp only [encT2, PyData.depth, PyData.depthAll]
    omega
theorem sm_T3 {α β γ : Type} {f : α → PyData} {g : β → PyData} {h : γ → PyData} {n k m j l i : Nat} {p : α × β × γ} (h1 : Sm n k (f p.1)) (h2 : Sm m j (g p.2.1)) (h3 : Sm l i (h p.2.2)) : Sm (1 + n + m + l) (max k (max j i) + 1) (encT3 f g h p) := by
  obtain ⟨a1, a2, a3⟩ := h1
  obtain ⟨b1, b2, b3⟩ := h2
  obtain ⟨c1, c2, c3⟩ := h3
  refine ⟨by simp [encT3, smallD, smallAll, a1, b1, c1], ?_, ?_⟩
  · simp only [encT3, nodes, nodesAll]
    omega
  · simp only [encT3, PyData.depth, PyData.depthAll]
    omega
end Vx
namespace Vx
open PySem PySem.Spec PyProof.Rows L2
theorem new_ne2 {H : Hp} {L : List Addr} {x : Addr} (n : ∀ b ∈ L, H b = none) (h : H x ≠ none) : ∀ b ∈ L, b ≠ x := fun b hb z => h (z ▸ n b hb)
theorem upd_tree {α : Type} {f : α → Dt} {G H H' : Hp} {L L1 : List Addr} {vs : List V} {xs : List α} {k : Int} {v : V} {m : Addr} {y : α} (up : ∀ H' y, (∀ b ∈ L, b ∉ L1 → ∀ o, H b = some o → H' b = some o) → Ow G H' L1 v (f y) → OwAll G H' L vs ((setL xs k y).map f)) (x : SameX m H H') (hm : m ∈ L1) (w : Ow G H' L1 v (f y)) :
    OwAll G H' L vs ((setL xs k y).map f) := up H' y (fun c _ n o q => x c o q (fun z => n (z ▸ hm))) w
theorem Ow.toFrz {α : Type} {f : α → PyData} {G H : Hp} {L : List Addr} {v : V} {x : α} (w : Ow G H L v (oF f x)) : L = [] ∧ Rp G v (f x) := by
  unfold oF at w
  cases w with
  | frz r => exact ⟨rfl, r⟩
section
variable {α : Type} {f : α → Dt} {G H : Hp} {L : List Addr} {vs : List V} {xs : List α}
theorem OwAll.pin {i : Nat} {v : V} {x : α} (w : OwAll G H L vs (xs.map f)) (h : vs[i]? = some v) (hx : xs[i]? = some x) : ∃ L1, Ow G H L1 v (f x) ∧ ∀ b ∈ L1, b ∈ L := by
  obtain ⟨y, L1, h1, h2, h3⟩ := OwAll.turn w h
  rw [hx] at h1
  cases h1
  exact ⟨L1, h2, h3⟩
theorem OwAll.pinInts {i : Nat} {b : Addr} {xs : List (List Int)} {x : List Int} (w : OwAll G H L vs (xs.map (oL oI))) (h : vs[i]? = some (.ref b)) (hx : xs[i]? = some x) : H b = some (.lst (x.map V.int)) ∧ b ∈ L := by
  obtain ⟨L1, w1, h1⟩ := OwAll.pin w h hx
  obtain ⟨c, e, rfl, h2⟩ := Ow.toInts w1
  cases e
  exact ⟨h2, h1 _ List.mem_cons_self⟩
end
end Vx
namespace Vx
open PySem PySem.Spec PyProof.Rows L2
theorem lookup_relab {c : Str → Bool} {y : Str} : ∀ l : List (Str × NameKind), (l.lookup y = some .cell ∨ l.lookup y = some .free) →
    ((l.map fun (n, k) => if (k == .free && c n) then (n, NameKind.cell) else (n, k)).lookup y = some .cell ∨ (l.map fun (n, k) => if (k == .free && c n) then (n, NameKind.cell) else (n, k)).lookup y = some .free)
  | [], h => by simp at h
  | (n, k) :: r, h => by
    rw [List.map_cons]
    dsimp only
    by_cases e : y == n
    · have hk : k = .cell ∨ k = .free := by
        rw [List.lookup_cons, e] at h
        simpa using h
      by_cases q : (k == .free && c n) = true
      · left
        rw [if_pos q, List.lookup_cons, e]
      · rw [if_neg q, List.lookup_cons, e]
        simpa using hk
    · have e : (y == n) = false := by simpa using e
      rw [List.lookup_cons, e] at h
      have ih := lookup_relab (c := c) r h
      by_cases q : (k == .free && c n) = true
      · rw [if_pos q, List.lookup_cons, e]
        exact ih
      · rw [if_neg q, List.lookup_cons, e]
        exact ih
theorem blk_relabel {N : List Str} {sc scope : Scope} {env : Env} {own : List (Str × Nat)} (h : BlkOk N sc scope own) : BlkOk N (relabel sc env) scope own := by
  refine ⟨h.kind, h.uniq, h.ix, fun y hy e => ?_, h.own⟩
  have z := lookup_relab (c := fun n => env.scope.kind == .function && env.kindOf n == some .cell) (y := y.1) sc.names (h.free y hy e)
  unfold relabel
  simpa only [Bool.and_assoc] using z
end Vx
namespace Vx
open PySem PySem.Spec PyProof.Rows L2
theorem FnG.low {P : Program} {w : World} {K : PySem.W.Frag} {mg : Str → Option Value} {base : Heap} {cx : CXT} {j k : Nat} {f : Addr} {fd : FuncData} {ps : List Str} {sp : Sp} (F : FnG P w K mg base cx j f fd ps sp) (h : j ≤ k) : FnG P w K mg base cx k f fd ps sp := ⟨F.len, fun A o s H a us vs Q E r => F.run A o s H a us vs Q E (r.low h)⟩
/-! ### a local name that holds one of several defs -/
structure HeldX (P : Program) (w : World) (K : PySem.W.Frag) (mg : Str → Option Value) (base : Heap) (k n : Nat) (f : Addr) (sp : Sp) : Prop where
  ex : ∃ (fd : FuncData) (ps : List Str), FnG P w K mg base (L2.CX P w) k f fd ps sp ∧ PySem.W.keepIn K (.ref f) = true ∧ Bnd K fd ps n [] (fun vs _ => vs)
theorem HeldX.of {P : Program} {w : World} {K : PySem.W.Frag} {mg : Str → Option Value} {base : Heap} {j k n : Nat} {x : Str} {sp : Sp} {pats : List Pat} {a : Addr} (c : CalX P w K mg base j x sp pats) (hx : mg x = some (.ref a)) (hp : (n, [], fun vs _ => vs) ∈ pats) (hj : j ≤ k) : HeldX P w K mg base k n a sp := by
  obtain ⟨f, fd, ps, F, hm, kp, b⟩ := c.ex
  rw [hx] at hm
  injection hm with hm
  injection hm with hm
  subst hm
  exact ⟨fd, ps, F.low hj, kp, b _ hp⟩
def tCallF (i n : Nat) (L : List (Addr × Sp)) (W : WX) (t : TA) : TE := fun σ H Q => ∃ f sp, σ[i]? = some (some (.ref f)) ∧ (f, sp) ∈ L ∧ t σ H fun vs H1 => vs.length = n ∧ ([] : List V).length = 0 ∧ sp vs H1 Q (WE W σ)
theorem vx_callF {X : Cx} {k j i n : Nat} {x : Str} {p pos : Pos} {e : Expr} {es : List Expr} {t : TA} {W : WX} (L : List (Addr × Sp)) (A : ∀ q ∈ L, HeldX X.prog X.w X.K X.mg X.base k n q.1 q.2) (hr : RoomG j X.A) (hk : k ≤ j) (tkW : Takes X W) (hN : X.N[i]? = some x) (hv : Vis X.env.scope x) (ha : PA X (e :: es) t)
    (hdb : (x == ("__debug__" : Str)) = false := by decide) (hcd : (x == ("__classdict__" : Str)) = false := by decide) (he : starEach (e :: es) X.env = (false, eval e X.env) :: starEach es X.env := by rfl) (hpl : (backTo pos (starEach es X.env)).any (·.1) = false := by rfl) :
    PE X (.Call (.Name x p) (e :: es) [] pos) (tCallF i n L W t) := by
  constructor
  intro pins s σ H Q I h
  obtain ⟨f, sp, slot, mem, rest⟩ := h
  obtain ⟨fd, ps, F, kp, b⟩ := (A _ mem).ex
  refine wpAny_Call_Name_kw (thn ((pe_var (pos := p) hN hv hdb hcd).run pins s σ H (fun v H1 => v = .ref f ∧ H1 = H) I ⟨.ref f, slot, rfl, rfl⟩) ?_)
  rintro u s1 ⟨v, H1, I1, r1, rfl, rfl⟩
  cases r1
  refine PySem.W.callWith_K (h₀ := X.base) I.ok.mod.kin kp (thn (ha.run pos pins s1 σ _ _ I1 rest) ?_) he hpl
  rintro us s2 ⟨vs, H2, I2, r, l1, l2, q⟩
  exact ⟨I2.kIn, run_X (us := us) (ws := []) (zs := []) F (hr.low hk) b tkW I2 r .nil l1 l2 q⟩
/-! ### the least of a list, the place of an item -/
def minL : List Int → Int
  | [] => 0
  | [x] => x
  | x :: y :: r => if x ≤ minL (y :: r) then x else minL (y :: r)
theorem minL_spec : ∀ (xs : List Int), xs ≠ [] → minL xs ∈ xs ∧ ∀ y ∈ xs, minL xs ≤ y
  | [], h => absurd rfl h
  | [x], _ => ⟨List.mem_cons_self, fun y hy => by rw [List.mem_singleton.mp hy]; exact Int.le_refl x⟩
  | x :: y :: r, _ => by
    obtain ⟨h1, h2⟩ := minL_spec (y :: r) (fun z => nomatch z)
    unfold minL
    split
    · refine ⟨List.mem_cons_self, fun z hz => ?_⟩
      rcases List.mem_cons.mp hz with rfl | hz
      · exact Int.le_refl _
      · have := h2 z hz
        omega
    · refine ⟨List.mem_cons_of_mem _ h1, fun z hz => ?_⟩
      rcases List.mem_cons.mp hz with rfl | hz
      · omega
      · exact h2 z hz
def maxL (xs : List Int) : Int := -(minL (xs.map fun x => -x))
theorem maxL_spec (xs : List Int) (h : xs ≠ []) : maxL xs ∈ xs ∧ ∀ y ∈ xs, y ≤ maxL xs := by
  obtain ⟨h1, h2⟩ := minL_spec (xs.map fun x => -x) (by simpa using h)
  obtain ⟨z, hz, e⟩ := List.mem_map.mp h1
  unfold maxL
  refine ⟨by rw [← e, Int.neg_neg]; exact hz, fun y hy => ?_⟩
  have := h2 _ (List.mem_map_of_mem hy)
  omega
section
variable {X : Cx} {K : PySem.W.Frag}
def rMinL (K : PySem.W.Frag) : List V → Hp → VK → Prop := fun vs H Q => ∃ (a : Addr) (ns : List Int), vs = [V.ref a] ∧ SqL K H a (ns.map V.int) ∧ ns ≠ [] ∧ Q (.int (minL ns)) H
def rMaxL (K : PySem.W.Frag) : List V → Hp → VK → Prop := fun vs H Q => ∃ (a : Addr) (ns : List Int), vs = [V.ref a] ∧ SqL K H a (ns.map V.int) ∧ ns ≠ [] ∧ Q (.int (maxL ns)) H
theorem cr_minL (hc : X.calm = true) (hK : X.K = K := by rfl) : CallR X (.builtin "min") (rMinL K) := by
  subst hK
  intro pins s σ H vs us Q I r h
  obtain ⟨a, ns, rfl, hs, hn, q⟩ := h
  refine cr_min hc pins s σ H _ us Q I r ⟨a, ns, rfl, hs, List.length_pos_iff.mpr hn, fun m hm hle => ?_⟩
  obtain ⟨h1, h2⟩ := minL_spec ns hn
  have e : m = minL ns := Int.le_antisymm (by have := hle _ h1; omega) (h2 m hm)
  rw [e]
  exact q
theorem cr_maxL (hc : X.calm = true) (hK : X.K = K := by rfl) : CallR X (.builtin "max") (rMaxL K) := by
  subst hK
  intro pins s σ H vs us Q I r h
  obtain ⟨a, ns, rfl, hs, hn, q⟩ := h
  refine cr_max hc pins s σ H _ us Q I r ⟨a, ns, rfl, hs, List.length_pos_iff.mpr hn, fun m hm hle => ?_⟩
  obtain ⟨h1, h2⟩ := maxL_spec ns hn
  have e : m = maxL ns := Int.le_antisymm (h2 m hm) (by have := hle _ h1; omega)
  rw [e]
  exact q
end
end Vx
namespace Vx
open PySem PySem.Spec PyProof.Rows L2
def idxL (ns : List Int) (i : Int) : Int := (ns.idxOf i : Nat)
def rIndexI (K : PySem.W.Frag) : V → List V → Hp → VK → Prop := fun x xs H Q => ∃ (a : Addr) (ns : List Int) (i : Int), x = V.ref a ∧ xs = [.int i] ∧ SqL K H a (ns.map V.int) ∧ i ∈ ns ∧ Q (.int (idxL ns i)) H
theorem mt_indexI {X : Cx} {K : PySem.W.Frag} (hK : X.K = K := by rfl) : MtR X "list.index" (rIndexI K) := by
  subst hK
  intro pins s σ H x xs v us Q I rx rxs h
  obtain ⟨a, ns, i, rfl, rfl, hs, hi, q⟩ := h
  have hl := List.idxOf_lt_length_of_mem hi
  refine mt_index pins s σ H _ _ v us Q I rx rxs ⟨a, _, .int i, ns.idxOf i, .int i, rfl, rfl, hs, rfl, flat_ints ns, ?_, by simp [eqV], fun m z hm hz => ?_, q⟩
  · rw [List.getElem?_map, List.getElem?_eq_getElem hl, List.getElem_idxOf hl] <;> rfl
  · rw [List.getElem?_map] at hz
    cases e : ns[m]? with
    | none => rw [e] at hz; cases hz
    | some y =>
      rw [e] at hz
      cases hz
      have hml : m < ns.length := by omega
      have hy : ns[m] = y := by
        rw [List.getElem?_eq_getElem hml] at e
        exact Option.some.inj e
      have := List.not_of_lt_findIdx (p := (· == i)) (xs := ns) (i := m) hm
      simp only [beq_iff_eq, hy] at this
      simp [eqV, this]
theorem cW_aftgo {σ ρ τ : Type} {s : σ} {kr : ρ → Rx τ} {k : σ → Rx τ} {K : τ → Prop} {E : Nat → Prop} (h : cW ((Lp.go s : Lp σ ρ).aft kr k) K E) : cW (k s) K E := h
end Vx
namespace Vx
open PySem PySem.Spec PyProof.Rows L2
/-! ### a truth value or a number beside a number -/
def Bi.num : Bi → Int
  | .b x => if x then 1 else 0
  | .n i => i
def Bi.dat : Bi → PyData
  | .b x => .bool x
  | .n i => .int i
section
variable {X : Cx}
def rEqBI : R2 := fun x y H Q => ∃ (b : Bi) (i : Int), x = biV b ∧ y = .int i ∧ Q (.bl (decide (b.num = i))) H
def rNeBI : R2 := fun x y H Q => ∃ (b : Bi) (i : Int), x = biV b ∧ y = .int i ∧ Q (.bl (!decide (b.num = i))) H
theorem eqv_bi (b : Bi) (i : Int) : PyData.eqv b.dat (.int i) = decide (b.num = i) := by
  cases b with
  | b x => cases x <;> (rw [Bool.eq_iff_iff]; simp [Bi.dat, Bi.num, PyData.eqv])
  | n j =>
    rw [Bool.eq_iff_iff]
    simp only [Bi.dat, Bi.num, PyData.eqv, beq_iff_eq]
    exact decide_eq_true_iff.symm
theorem dp_bi {K : PySem.W.Frag} {H : Hp} : ∀ b : Bi, Dp K H (biV b) b.dat
  | .b x => .bl x
  | .n i => .int i
theorem shaped_bi : ∀ b : Bi, SeqAt.shaped b.dat = true
  | .b x => by unfold SeqAt.shaped; simp [Bi.dat, PyData.canLay0, PyData.depth]
  | .n i => by unfold SeqAt.shaped; simp [Bi.dat, PyData.canLay0, PyData.depth]
theorem op_eqBI (hu : X.A.units + 64 < cLine) : OpR X (compareOp .Eq) rEqBI := by
  intro pins s σ H x y v u Q I rx ry h
  obtain ⟨b, i, rfl, rfl, q⟩ := h
  exact op_eqD hu pins s σ H _ _ v u Q I rx ry ⟨b.dat, .int i, dp_bi b, .int i, shaped_bi b, shaped_bi (.n i), by rw [eqv_bi]; exact q⟩
theorem op_neBI (hu : X.A.units + 64 < cLine) : OpR X (compareOp .NotEq) rNeBI := by
  intro pins s σ H x y v u Q I rx ry h
  obtain ⟨b, i, rfl, rfl, q⟩ := h
  exact op_neD hu pins s σ H _ _ v u Q I rx ry ⟨b.dat, .int i, dp_bi b, .int i, shaped_bi b, shaped_bi (.n i), by rw [eqv_bi]; exact q⟩
end
end Vx
namespace Vx
open PySem PySem.Spec PyProof.Rows L2
/-! ### == of own objects by an own __eq__ that never raises -/
section
variable {X : Cx} {k j : Nat}
def rEqX (C : Addr) (n mm : Nat) (sp : Sp) (g : List V → List V → List V) : R2 := fun x y H Q => ∃ (a b dx dy : Addr) (fs gs : List (Str × V)), x = .ref a ∧ y = .ref b ∧ H a = some (.ins C dx fs) ∧ H b = some (.ins C dy gs) ∧ 2 = n ∧ 0 = mm ∧ sp (g [x, y] []) H (fun v H' => (∃ r, v = .bl r) ∧ Q v H') E0
theorem op_eqX {C : Addr} {sp : Sp} {pats : List Pat} (c : MetX X.prog X.w X.K X.mg X.base k C "__eq__" sp pats) (pt : Pat) (hpt : pt ∈ pats) (hr : RoomG j X.A) (hk : k ≤ j) (hks : pt.2.1 = [] := by rfl) : OpR X (compareOp .Eq) (rEqX C pt.1 pt.2.1.length sp pt.2.2) := by
  intro pins s σ H x y v u Q I rx ry hq
  obtain ⟨a, b, dx, dy, fs, gs, rfl, rfl, ha, hb', l1, l2, q⟩ := hq
  obtain ⟨f, fd, ps, hc, hm, F, bb⟩ := c.ex
  cases rx
  cases ry
  obtain ⟨mA, J, _⟩ := ins_get I.hok ha
  obtain ⟨mB, J', _⟩ := ins_get I.hok hb'
  obtain ⟨od, J, _⟩ := J.look
  obtain ⟨od', J', _⟩ := J'.look
  obtain ⟨m, hF⟩ := I.fr
  have hz := run_X (us := [.ref a, .ref b]) (vs := [.ref a, .ref b]) (ws := []) (zs := []) F (hr.low hk) (bb pt hpt) (takes0 (X := X)) I (.cons rfl (.cons rfl .nil)) .nil l1 l2 q
  rw [hks] at hz
  show wpAny (model X.prog X.w) X.A (richCompare .Eq (.ref a) (.ref b)) (EP X pins σ Q) X.xe s
  refine PySem.W.cmp_K (op := .Eq) (tb := .ref C) (hr.low hk).toRoom.units0 hF I.ok.mod.kin J J'.type (by simp [PySem.W.notFirst]) hm.at_ hm.fn ?_
  refine wpAny_mono hz (fun r s' z => ?_) fun _ _ e => e
  obtain ⟨w, H', I', rw', ⟨⟨q1, rfl⟩, q2⟩⟩ := z
  cases rw'
  exact ⟨V.bl q1, H', I', rfl, q2⟩
end
end Vx
namespace Vx
open PySem PySem.Spec PyProof.Rows L2
/-! ### isinstance of the exception in hand: a built-in class, a tuple of classes -/
theorem kit_blt {K : PySem.W.Frag} {D : Addr} {T : String} {b : Bool} (h : PySem.W.subIn K (.ref D) (.type T) = some b) (h0 : PySem.W.kitMeta T = true := by decide +kernel) : PySem.W.kitOne K (.ref D) (.type T) = some b := by
  unfold PySem.W.kitOne
  rw [if_neg (show ¬ (Value.ref D == Value.type T) = true from fun z => nomatch (show false = true from z))]
  show (if PySem.W.kitMeta T = true then PySem.W.subIn K (.ref D) (.type T) else none) = some b
  rw [if_pos h0, h]
def rIsXB (K : PySem.W.Frag) (a : Addr) (cls : Value) (d : Option Addr) : List V → Hp → VK → Prop := fun xs H Q => ∃ (D : Addr) (T : String) (b : Bool), cls = .ref D ∧ d = none ∧ ExcC K D ∧ xs = [.ref a, .ty T] ∧ PySem.W.kitOne K (.ref D) (.type T) = some b ∧ Q (.bl b) H
theorem call_isXB {X : Cx} {K : PySem.W.Frag} {a : Addr} {cls : Value} {d : Option Addr} {oe : Obj} {pn : List (Addr × Obj)} (hz : Zc cls d oe) (hf : ∃ vs, oe.data = .fields vs) (hK : X.K = K := by rfl) : CallR (X.suite a ((a, oe) :: pn)) (.builtin "isinstance") (rIsXB K a cls d) := by
  subst hK
  intro pins s σ H xs us Q I r h
  obtain ⟨D, T, b, rfl, rfl, c, rfl, e, q⟩ := h
  exact call_isE c hz hf pins s σ H _ us Q I r ⟨_, _, b, rfl, fun u z => z, e, q⟩
def rIsXT (K : PySem.W.Frag) (a : Addr) (cls : Value) (d : Option Addr) : List V → Hp → VK → Prop := fun xs H Q => ∃ (D tp : Addr) (cs : List V) (ws : List Value) (b : Bool), cls = .ref D ∧ d = none ∧ ExcC K D ∧ xs = [.ref a, .ref tp] ∧ H tp = some (.tup cs) ∧ Paired ClsV cs ws ∧ PySem.W.kitAny K (.ref D) ws = some b ∧ Q (.bl b) H
theorem call_isXT {X : Cx} {K : PySem.W.Frag} {a : Addr} {cls : Value} {d : Option Addr} {oe : Obj} {pn : List (Addr × Obj)} (hz : Zc cls d oe) (hf : ∃ vs, oe.data = .fields vs) (hK : X.K = K := by rfl) : CallR (X.suite a ((a, oe) :: pn)) (.builtin "isinstance") (rIsXT K a cls d) := by
  subst hK
  intro pins s σ H xs us Q I r h
  obtain ⟨D, tp, cs, ws, b, rfl, rfl, C, rfl, hT, k, e, q⟩ := h
  cases r with
  | cons rx rr =>
    cases rr with
    | cons rt rr =>
      cases rr
      cases rx
      cases rt
      obtain ⟨hget, _⟩ := I.pin (a, oe) (List.mem_append.mpr (.inl List.mem_cons_self))
      obtain ⟨vs, hv⟩ := hf
      have J : PySem.W.InstAt s.heap a oe D none := by
        obtain ⟨oc, od, oda, osl⟩ := oe
        obtain ⟨h1, h2⟩ := hz
        dsimp only at h1 h2 hv
        subst h1 h2 hv
        exact ⟨hget, rfl, rfl, trivial⟩
      obtain ⟨_, its, rv, o, h1, h2, n, h3⟩ := (show ObjOk X.prog X.w H s.heap tp (.tup cs) from I.hok tp _ hT)
      have e3 := ClsV.all k rv
      subst e3
      obtain ⟨oc, od, dt, sl⟩ := o
      simp only at h2 h3
      subst h2 h3
      exact PySem.W.kia_tup (PySem.W.handS_kitx_exc C.hg C.hk C.hs C.hd C.ha C.hn C.ht C.hm) I.kIn J h1 e (fun z => nomatch z) fun tk => ⟨.bl b, H, I.kept (t' := tk) fun _ _ z => z, rfl, q⟩
theorem kit_self {K : PySem.W.Frag} {t : Value} (h : (t == t) = true := by simp) : PySem.W.kitOne K t t = some true := by
  unfold PySem.W.kitOne
  rw [if_pos h]
/-- what a class must say, so that isinstance asks its objects rightly -/
structure IsiC (K : PySem.W.Frag) (C : Addr) : Prop where
  ha : PySem.W.findIn K (.ref C) "__class__" = some (some (.builtin "object.__class__"))
  hn : PySem.W.specialIn K (.builtin "object.__class__") "__get__" = some (some (.builtin "getset_descriptor.__get__"))
  ht : PySem.W.takesIn K (.builtin "object.__class__") = some true
  hm : PySem.W.mroIn K C (.type "object") = some true
theorem tyX_ins {K : PySem.W.Frag} {H : Hp} {a C dx : Addr} {fs : List (Str × V)} (e : H a = some (.ins C dx fs)) (cl : Cls K C) (c : IsiC K C) : TyX K H (.ref a) (.ref C) := .base (.ins e cl c.ha c.hn c.ht c.hm)
end Vx
namespace Vx
open PySem PySem.Spec PyProof.Rows L2
theorem op_notTrue {X : Cx} : OpR X (compareOp .IsNot) (fun x y H Q => ∃ b : Bool, x = .bl b ∧ y = .bl true ∧ Q (.bl (!b)) H) := by
  intro pins s σ H x y v u Q I rx ry h
  obtain ⟨b, rfl, rfl, q⟩ := h
  cases rx
  cases ry
  show wpAny (model X.prog X.w) X.A (compareOp .IsNot (.bool b) (.bool true)) (EP X pins σ Q) X.xe s
  have e : compareOp .IsNot (.bool b) (.bool true) = pure (.bool (!b)) := by cases b <;> rfl
  rw [e]
  exact wpAny_pure ⟨.bl (!b), H, I, rfl, q⟩
end Vx
/-! # lists stored into trees -/
namespace Vx
open PySem PySem.Spec PyProof.Rows L2
section
variable {G H I : Hp} {α : Type} {f : α → Dt} {L : List Addr} {vs : List V} {xs : List α}
theorem OwAll.set {L1 : List Addr} {v : V} {d : Dt} (h : Ow G H L1 v d) : ∀ {L : List Addr} {vs : List V} {ds : List Dt} (i : Nat), i < ds.length → OwAll G H L vs ds → (∀ b ∈ L1, b ∉ L) → ∃ L', (∀ b ∈ L', b ∈ L ++ L1) ∧ OwAll G H L' (vs.set i v) (ds.set i d)
  | _, _, _, _, hi, .nil, _ => absurd hi (Nat.not_lt_zero _)
  | _, _, _, 0, _, .cons (L1 := La) (L2 := Lb) a r n, nf => by
    refine ⟨L1 ++ Lb, fun b hb => ?_, .cons h r fun b hb q => nf b hb (List.mem_append_right _ q)⟩
    rcases List.mem_append.mp hb with q | q
    · exact List.mem_append_right _ q
    · exact List.mem_append_left _ (List.mem_append_right _ q)
  | _, _, _, i + 1, hi, .cons (L1 := La) (L2 := Lb) a r n, nf => by
    obtain ⟨L', s, w⟩ := OwAll.set h i (Nat.lt_of_succ_lt_succ hi) r fun b hb q => nf b hb (List.mem_append_right _ q)
    refine ⟨La ++ L', fun b hb => ?_, .cons a w fun b hb q => ?_⟩
    · rcases List.mem_append.mp hb with q | q
      · exact List.mem_append_left _ (List.mem_append_left _ q)
      · rcases List.mem_append.mp (s b q) with z | z
        · exact List.mem_append_left _ (List.mem_append_right _ z)
        · exact List.mem_append_right _ z
    · rcases List.mem_append.mp (s b q) with z | z
      · exact n b hb z
      · exact nf b z (List.mem_append_left _ hb)
theorem ixN_len {k : Int} (e : vs.length = xs.length) (h : -(xs.length : Int) ≤ k ∧ k < xs.length) : ixN vs.length k = some ((ixN vs.length k).getD 0) := by
  rw [e]
  obtain ⟨j, hj, _⟩ := ixN_some h
  rw [hj]
  rfl
theorem OwAll.setM {k : Int} {L1 : List Addr} {v : V} {y : α} (w : OwAll G H L vs (xs.map f)) (h : -(xs.length : Int) ≤ k ∧ k < xs.length) (ow : Ow G H L1 v (f y)) (n : ∀ b ∈ L1, b ∉ L) :
    ∃ L', (∀ b ∈ L', b ∈ L ++ L1) ∧ OwAll G H L' (vs.set ((ixN vs.length k).getD 0) v) ((setL xs k y).map f) := by
  obtain ⟨j, e, hj⟩ := ixN_some h
  obtain ⟨L', s, z⟩ := OwAll.set ow j (by simpa using hj) w n
  refine ⟨L', s, ?_⟩
  unfold setL
  rw [w.lenM, e, List.map_set]
  exact z
end
theorem ne_of_len {α : Type} {xs : List α} (h : xs.length = 4 ∨ xs.length = 6 ∨ xs.length = 8) : xs ≠ [] := by
  rintro rfl
  simp at h
end Vx
namespace Vx
open PySem PySem.Spec PyProof.Rows L2
/-! ### written dicts of ints -/
inductive EI : List (Int × Int) → List DictEntry → Prop
  | nil : EI [] []
  | cons {k v : Int} {t u : Tok} {r : List (Int × Int)} {es : List DictEntry} (h : EI r es) : EI ((k, v) :: r) (⟨hashInt k, .int k t, .int v u⟩ :: es)
def lookI : List (Int × Int) → Int → Option Int
  | [], _ => none
  | (k, v) :: r, i => if i = k then some v else lookI r i
def KDI (K : PySem.W.Frag) (a : Addr) (kvs : List (Int × Int)) : Prop :=
  ∃ es n, K.lookup a = some ⟨.type "dict", none, .dict es n, #[]⟩ ∧ (a == sysModules) = false ∧ EI kvs es.toList
theorem lookI_mem {kvs : List (Int × Int)} {i : Int} : (lookI kvs i).isSome = decide (i ∈ kvs.map (·.1)) := by
  induction kvs with
  | nil => rfl
  | cons p r ih =>
    obtain ⟨k, v⟩ := p
    unfold lookI
    by_cases q : i = k
    · rw [if_pos q]; simp [q]
    · rw [if_neg q, ih]; simp [q]
theorem EI.find {i : Int} : ∀ {kvs : List (Int × Int)} {es : List DictEntry}, EI kvs es → match lookI kvs i with
    | some v => ∃ u, (es.find? fun e => keyIs (.inl i) e.key).map (·.val) = some (.int v u)
    | none => (es.find? fun e => keyIs (.inl i) e.key).map (·.val) = none
  | _, _, .nil => rfl
  | _, _, .cons (k := k) (v := v) (t := t) (u := u) (r := r) (es := es) h => by
    have ih := EI.find (i := i) h
    unfold lookI
    by_cases q : i = k
    · subst q
      rw [if_pos rfl]
      refine ⟨u, ?_⟩
      rw [List.find?_cons_of_pos (by exact keyIs_int i t)]
      rfl
    · rw [if_neg q]
      have e : ¬ (keyIs (.inl i) (Value.int k t) = true) := by
        intro z
        obtain ⟨t', e'⟩ := Value.isInt_shape (k := i) (v := Value.int k t) z
        injection e' with e1 _
        exact q e1.symm
      rw [List.find?_cons_of_neg (by exact e)]
      exact ih
theorem EI.keys {P : Program} {w : World} : ∀ {kvs : List (Int × Int)} {es : List DictEntry}, EI kvs es → ∀ e ∈ es, ∃ k, (mixKind P w).is k e.key = true ∧ e.hash = (mixKind P w).hash k
  | _, _, .nil, e, he => nomatch he
  | _, _, .cons (k := k) (t := t) h, e, he => by
    rcases List.mem_cons.mp he with rfl | he
    · exact ⟨.inl k, keyIs_int k t, rfl⟩
    · exact EI.keys h e he
section
variable {X : Cx} {K : PySem.W.Frag}
theorem KDI.map {d : Addr} {kvs : List (Int × Int)} {pins : List (Addr × Obj)} {σ : L2.St} {H : Hp} {s : Shared} (D : KDI X.K d kvs) (I : Inv X pins σ H s) : (d == sysModules) = false ∧ ∃ f, s.heap.MapOf (mixKind X.prog X.w) d f ∧ ∀ i, match lookI kvs i with
    | some v => ∃ u, f (.inl i) = some (.int v u)
    | none => f (.inl i) = none := by
  obtain ⟨es, n, hl, hd, he⟩ := D
  refine ⟨hd, fun k => findBy keyIs es k, ⟨_, es, n, I.kIn _ _ hl, ⟨rfl, rfl, rfl⟩, rfl, fun e q => EI.keys he e (Array.mem_toList_iff.mpr q), fun _ => rfl⟩, fun i => ?_⟩
  have := EI.find (i := i) he
  have e : findBy keyIs es (.inl i) = (es.toList.find? fun e => keyIs (.inl i) e.key).map (·.val) := by
    obtain ⟨l⟩ := es
    unfold findBy
    rw [List.find?_toArray]
  show match lookI kvs i with
    | some v => ∃ u, findBy keyIs es (.inl i) = some (.int v u)
    | none => findBy keyIs es (.inl i) = none
  rw [e]
  exact this
def rInDI (K : PySem.W.Frag) : R2 := fun x y H Q => ∃ (i : Int) (d : Addr) (kvs : List (Int × Int)) (ks : List Int), x = .int i ∧ y = .ref d ∧ KDI K d kvs ∧ ks = kvs.map (·.1) ∧ Q (.bl (decide (i ∈ ks))) H
def rNotInDI (K : PySem.W.Frag) : R2 := fun x y H Q => ∃ (i : Int) (d : Addr) (kvs : List (Int × Int)) (ks : List Int), x = .int i ∧ y = .ref d ∧ KDI K d kvs ∧ ks = kvs.map (·.1) ∧ Q (.bl (!decide (i ∈ ks))) H
def rIxDI (K : PySem.W.Frag) : R2 := fun x y H Q => ∃ (d : Addr) (i v : Int) (kvs : List (Int × Int)), x = .ref d ∧ y = .int i ∧ KDI K d kvs ∧ lookI kvs i = some v ∧ Q (.int v) H
theorem op_inDI (hK : X.K = K := by rfl) : OpR X (compareOp .In) (rInDI K) := by
  subst hK
  intro pins s σ H x y v u Q I rx ry h
  obtain ⟨i, d, kvs, ks, rfl, rfl, D, rfl, q⟩ := h
  rw [← lookI_mem] at q
  obtain ⟨t, rfl⟩ := rx
  cases ry
  obtain ⟨hd, f, hm, hf⟩ := D.map I
  refine wpAny_in_of (knd := mixKind X.prog X.w) (kV_is (k := .inl i) ⟨t, rfl⟩) hd hm ?_
  have e : (f (.inl i)).isSome = (lookI kvs i).isSome := by
    have := hf i
    split at this
    · next v hv => obtain ⟨u, hu⟩ := this; rw [hu, hv]; rfl
    · next hv => rw [this, hv]; rfl
  rw [e]
  exact ⟨.bl (lookI kvs i).isSome, H, I.tok _, rfl, q⟩
theorem op_notInDI (hK : X.K = K := by rfl) : OpR X (compareOp .NotIn) (rNotInDI K) := by
  subst hK
  intro pins s σ H x y v u Q I rx ry h
  obtain ⟨i, d, kvs, ks, rfl, rfl, D, rfl, q⟩ := h
  rw [← lookI_mem] at q
  obtain ⟨t, rfl⟩ := rx
  cases ry
  obtain ⟨hd, f, hm, hf⟩ := D.map I
  refine wpAny_notIn_of (knd := mixKind X.prog X.w) (kV_is (k := .inl i) ⟨t, rfl⟩) hd hm ?_
  have e : (f (.inl i)).isSome = (lookI kvs i).isSome := by
    have := hf i
    split at this
    · next v hv => obtain ⟨u, hu⟩ := this; rw [hu, hv]; rfl
    · next hv => rw [this, hv]; rfl
  rw [e]
  exact ⟨.bl (!(lookI kvs i).isSome), H, I.tok _, rfl, q⟩
theorem ix_DI (hK : X.K = K := by rfl) : IxR X (rIxDI K) := by
  subst hK
  intro value slice pins s σ H x y v u Q I rx ry h hs
  obtain ⟨p, i, r, kvs, rfl, rfl, D, e, q⟩ := h
  obtain rfl : v = Value.ref p := rx
  obtain ⟨t, rfl⟩ := ry
  obtain ⟨hd, f, hm, hf⟩ := D.map I
  have := hf i
  rw [e] at this
  obtain ⟨u, hu⟩ := this
  exact tail_any hm.typeIs slot_dict_getitem.lookup (wpAny_getItem_of (knd := mixKind X.prog X.w) (kV_is (k := .inl i) ⟨t, rfl⟩) hm hu ⟨.int r, H, I.tok _, ⟨_, rfl⟩, q⟩) hs
end
/-- the value at a key that is there -/
def dictI (kvs : List (Int × Int)) (i : Int) : Int := (lookI kvs i).getD 0
theorem lookI_at {kvs : List (Int × Int)} {i : Int} (h : i ∈ kvs.map (·.1)) : lookI kvs i = some (dictI kvs i) := by
  have := lookI_mem (kvs := kvs) (i := i)
  rw [decide_eq_true h] at this
  unfold dictI
  cases e : lookI kvs i with
  | none => rw [e] at this; cases this
  | some v => rfl
/-! ### walks over two lists, over numbered items, backwards -/
theorem pi_enumK {X : Cx} {K : PySem.W.Frag} {e : Expr} {ta : TA} {p pos tpos : Pos} {elts : List Expr} {kk : Nat} (hg : Gl X "enumerate") (hm : X.mg "enumerate" = none) (ha : PA X [e] ta) (hK : X.K = K := by rfl) (hs : starEach [e] X.env = [(false, eval e X.env)] := by rfl) :
    PI X (.Tuple elts kk tpos) (.Call (.Name "enumerate" p) [e] [] pos) (iEnum K ta) := hK ▸ pi_enum hg hm ha hs
section
variable {K : PySem.W.Frag} {a b : Addr} {xs ys : List V} {g : TG} {tb : TS} {tt : TT} {te : TE} {D : Ends} {σ : L2.St} {H H1 : Hp} {vs : List Nat} {DD : Addr} {Qd : Hp → Prop}
theorem for_enum (Pv : Nat → L2.St → Hp → Prop) (h0 : Pv 0 σ H) (hq : ∀ i σ H, Pv i σ H → SqL K H a xs)
    (hs : ∀ (i : Nat) (y : V) (T : Addr) (σ : L2.St) (H : Hp), xs[i]? = some y → H T = none → Pv i σ H → g (.ref T) σ (upd H T (.tup [.int (i : Nat), y])) fun σ2 H2 => tb { D with nx := Pv (i + 1), ct := Pv (i + 1), bk := D.nx } σ2 H2) (hd : ∀ σ H, Pv xs.length σ H → D.nx σ H) :
    ∃ W : Nat → Nat → L2.St → Hp → Prop, (∃ m, W 0 m σ H) ∧ ∀ i m σ H, W i m σ H →
      ((Ite K a).stop i H ∧ D.nx σ H) ∨ ((Ite K a).go i H ∧ ∃ N : L2.St → Hp → Prop, (∀ σ' H', N σ' H' → ∃ m', m' < m ∧ W (i + 1) m' σ' H') ∧ ∀ v H', (Ite K a).yld i H v H' → g v σ H' fun σ2 H2 => tb { D with nx := N, ct := N, bk := D.nx } σ2 H2) := by
  refine for_it walk_enum Pv h0 (fun i σ H _ p => hq i σ H p) (fun i x σ H H' hi p y => ?_) hd
  obtain ⟨T, x1, y1, rfl, hT, rfl, h1, h2⟩ := y
  cases h1
  exact hs i y1 T σ H h2 hT p
theorem lc_enum (Pv : Nat → Hp → Prop) (h0 : Pv 0 (upd H1 DD (.lst []))) (hq : ∀ i H, i ≤ xs.length → Pv i H → SqL K H a xs)
    (hs : ∀ (i : Nat) (y : V) (T : Addr) (H : Hp), xs[i]? = some y → H T = none → Pv i H → g (.ref T) (wipe σ vs) (upd H T (.tup [.int (i : Nat), y])) fun σ2 H2 => wipe σ2 vs = wipe σ vs ∧ tt σ2 H2 fun b H3 =>
      if b = true then te σ2 H3 fun y H4 => ∃ acc, H4 DD = some (.lst acc) ∧ acc.length < sizeLine ∧ Pv (i + 1) (upd H4 DD (.lst (acc ++ [y]))) else Pv (i + 1) H3) (hd : ∀ H, Pv xs.length H → Qd H) :
    ∃ W : Nat → Nat → Hp → Prop, (∃ m, W 0 m (upd H1 DD (.lst []))) ∧ ∀ i m H, W i m H →
      ((Ite K a).stop i H ∧ Qd H) ∨ ((Ite K a).go i H ∧ ∃ Nx : Hp → Prop, (∀ H', Nx H' → ∃ m', m' < m ∧ W (i + 1) m' H') ∧ ∀ x H', (Ite K a).yld i H x H' → g x (wipe σ vs) H' fun σ2 H2 => wipe σ2 vs = wipe σ vs ∧ tt σ2 H2 fun b H3 =>
        if b = true then te σ2 H3 fun y H4 => ∃ acc, H4 DD = some (.lst acc) ∧ acc.length < sizeLine ∧ Nx (upd H4 DD (.lst (acc ++ [y]))) else Nx H3) := by
  refine lc_it walk_enum Pv h0 hq (fun i x H H' hi p y => ?_) hd
  obtain ⟨T, x1, y1, rfl, hT, rfl, h1, h2⟩ := y
  cases h1
  exact hs i y1 T H h2 hT p
/-- zip of two lists of any lengths -/
theorem for_zipM (n : Nat) (hn : n = min xs.length ys.length) (Pv : Nat → L2.St → Hp → Prop) (h0 : Pv 0 σ H) (hq : ∀ i σ H, Pv i σ H → SqL K H a xs ∧ SqL K H b ys)
    (hs : ∀ (i : Nat) (x y : V) (T : Addr) (σ : L2.St) (H : Hp), xs[i]? = some x → ys[i]? = some y → H T = none → Pv i σ H → g (.ref T) σ (upd H T (.tup [x, y])) fun σ2 H2 => tb { D with nx := Pv (i + 1), ct := Pv (i + 1), bk := D.nx } σ2 H2) (hd : ∀ σ H, Pv n σ H → D.nx σ H) :
    ∃ W : Nat → Nat → L2.St → Hp → Prop, (∃ m, W 0 m σ H) ∧ ∀ i m σ H, W i m σ H →
      ((Itz K a b).stop i H ∧ D.nx σ H) ∨ ((Itz K a b).go i H ∧ ∃ N : L2.St → Hp → Prop, (∀ σ' H', N σ' H' → ∃ m', m' < m ∧ W (i + 1) m' σ' H') ∧ ∀ v H', (Itz K a b).yld i H v H' → g v σ H' fun σ2 H2 => tb { D with nx := N, ct := N, bk := D.nx } σ2 H2) := by
  refine for_it (walk_zip hn) Pv h0 (fun i σ H _ p => hq i σ H p) (fun i x σ H H' hi p y => ?_) hd
  obtain ⟨T, x1, y1, rfl, hT, rfl, h1, h2⟩ := y
  exact hs i x1 y1 T σ H h1 h2 hT p
theorem lc_zipM (n : Nat) (hn : n = min xs.length ys.length) (Pv : Nat → Hp → Prop) (h0 : Pv 0 (upd H1 DD (.lst []))) (hq : ∀ i H, i ≤ n → Pv i H → SqL K H a xs ∧ SqL K H b ys)
    (hs : ∀ (i : Nat) (x y : V) (T : Addr) (H : Hp), xs[i]? = some x → ys[i]? = some y → H T = none → Pv i H → g (.ref T) (wipe σ vs) (upd H T (.tup [x, y])) fun σ2 H2 => wipe σ2 vs = wipe σ vs ∧ tt σ2 H2 fun b H3 =>
      if b = true then te σ2 H3 fun y H4 => ∃ acc, H4 DD = some (.lst acc) ∧ acc.length < sizeLine ∧ Pv (i + 1) (upd H4 DD (.lst (acc ++ [y]))) else Pv (i + 1) H3) (hd : ∀ H, Pv n H → Qd H) :
    ∃ W : Nat → Nat → Hp → Prop, (∃ m, W 0 m (upd H1 DD (.lst []))) ∧ ∀ i m H, W i m H →
      ((Itz K a b).stop i H ∧ Qd H) ∨ ((Itz K a b).go i H ∧ ∃ Nx : Hp → Prop, (∀ H', Nx H' → ∃ m', m' < m ∧ W (i + 1) m' H') ∧ ∀ x H', (Itz K a b).yld i H x H' → g x (wipe σ vs) H' fun σ2 H2 => wipe σ2 vs = wipe σ vs ∧ tt σ2 H2 fun b H3 =>
        if b = true then te σ2 H3 fun y H4 => ∃ acc, H4 DD = some (.lst acc) ∧ acc.length < sizeLine ∧ Nx (upd H4 DD (.lst (acc ++ [y]))) else Nx H3) := by
  refine lc_it (walk_zip hn) Pv h0 hq (fun i x H H' hi p y => ?_) hd
  obtain ⟨T, x1, y1, rfl, hT, rfl, h1, h2⟩ := y
  exact hs i x1 y1 T H h1 h2 hT p
end
theorem zipM_len {α β : Type} {xs : List α} {ys : List β} : min xs.length ys.length = (xs.zip ys).length := by rw [List.length_zip]
theorem zipM_n {α β : Type} {vs ws : List V} {xs : List α} {ys : List β} (a : vs.length = xs.length) (b : ws.length = ys.length) : min xs.length ys.length = min vs.length ws.length := by rw [a, b]
def rListTK (K : PySem.W.Frag) : List V → Hp → VK → Prop := fun xs H Q => ∃ (p : Addr) (vs : List V), xs = [.ref p] ∧ SqT K H p vs ∧ ∀ l, H l = none → Q (.ref l) (upd H l (.lst vs))
theorem call_listTK {X : Cx} {K : PySem.W.Frag} (hK : X.K = K := by rfl) : CallR X (.type "list") (rListTK K) := by
  subst hK
  intro pins s σ H xs us Q I r h
  obtain ⟨p, vs, rfl, hs, q⟩ := h
  exact call_list_of pins s σ H _ us Q I r ⟨p, _, rfl, Or.inr hs, q⟩
/-- two lists that keep step -/
inductive F2 {α β : Type} (P : α → β → Prop) : List α → List β → Prop
  | nil : F2 P [] []
  | cons {a : α} {b : β} {l : List α} {m : List β} (h : P a b) (t : F2 P l m) : F2 P (a :: l) (b :: m)
theorem F2.get {α β : Type} {P : α → β → Prop} : ∀ {l : List α} {m : List β}, F2 P l m → ∀ (j : Nat), j < l.length → ∃ a b, l[j]? = some a ∧ m[j]? = some b ∧ P a b
  | _, _, .nil, j, h => absurd h (Nat.not_lt_zero _)
  | _, _, .cons h t, 0, _ => ⟨_, _, rfl, rfl, h⟩
  | _, _, .cons h t, j + 1, hj => t.get j (Nat.lt_of_succ_lt_succ hj)
theorem F2.at {α β : Type} [Inhabited α] [Inhabited β] {P : α → β → Prop} {l : List α} {m : List β} (h : F2 P l m) (k : Int) (h0 : 0 ≤ k) (h1 : k < l.length) : P (itD l k) (itD m k) := by
  obtain ⟨j, rfl⟩ : ∃ j : Nat, k = (j : Int) := ⟨k.toNat, by omega⟩
  obtain ⟨a, b, ha, hb, p⟩ := h.get j (by omega)
  have e1 : itD l (j : Int) = a := by unfold itD; rw [atI_nat ha]; rfl
  have e2 : itD m (j : Int) = b := by unfold itD; rw [atI_nat hb]; rfl
  rw [e1, e2]
  exact p
theorem SqT.cast {K : PySem.W.Frag} {H : Hp} {a : Addr} {xs ys : List V} (h : SqT K H a xs) (e : xs = ys) : SqT K H a ys := e ▸ h
/-- enumerate(xs) -/
def enumL {α : Type} (xs : List α) : List (Int × α) := (rng 0 xs.length).zip xs
theorem enumL_len {α : Type} (xs : List α) : (enumL xs).length = xs.length := by
  unfold enumL
  rw [List.length_zip, rng_len, Nat.min_self]
theorem enumL_get {α : Type} {xs : List α} {i : Nat} {x : α} (h : xs[i]? = some x) : (enumL xs)[i]? = some ((i : Int), x) := by
  have hl : i < xs.length := (List.getElem?_eq_some_iff.mp h).1
  unfold enumL
  rw [List.getElem?_zip_eq_some]
  refine ⟨?_, h⟩
  have := rng_get (lo := 0) hl
  rw [this]
  congr 1
  omega
end Vx
namespace Vx
open PySem PySem.Spec PyProof.Rows L2
theorem wipe_get : ∀ (σ : L2.St) (vs : List Nat) (j : Nat), (wipe σ vs)[j]? = if j ∈ vs ∧ j < σ.length then some none else σ[j]?
  | σ, [], j => by simp [wipe]
  | σ, v :: vs, j => by
    unfold wipe
    by_cases e : v = j
    · subst e
      by_cases h : v < σ.length
      · rw [List.getElem?_set_self (by rw [wipe_length]; exact h), if_pos ⟨List.mem_cons_self, h⟩]
      · rw [if_neg (fun z => h z.2), List.getElem?_eq_none (by rw [List.length_set, wipe_length]; omega), List.getElem?_eq_none (by omega)]
    · rw [List.getElem?_set_ne e, wipe_get σ vs j]
      have : (j ∈ v :: vs ∧ j < σ.length) ↔ (j ∈ vs ∧ j < σ.length) := by
        constructor
        · rintro ⟨h1, h2⟩
          rcases List.mem_cons.mp h1 with rfl | h1
          · exact absurd rfl e
          · exact ⟨h1, h2⟩
        · rintro ⟨h1, h2⟩
          exact ⟨List.mem_cons_of_mem _ h1, h2⟩
      by_cases q : j ∈ vs ∧ j < σ.length
      · rw [if_pos q, if_pos (this.mpr q)]
      · rw [if_neg q, if_neg (fun z => q (this.mp z))]
theorem wipe_wipe {σ : L2.St} {vs : List Nat} : wipe (wipe σ vs) vs = wipe σ vs := by
  apply List.ext_getElem?
  intro j
  rw [wipe_get (wipe σ vs), wipe_length]
  by_cases q : j ∈ vs ∧ j < σ.length
  · rw [if_pos q, wipe_get, if_pos q]
  · rw [if_neg q]
theorem wipe_set {σ : L2.St} {vs : List Nat} {v : Nat} {x : Option V} (h : v ∈ vs) : wipe (σ.set v x) vs = wipe σ vs := by
  apply List.ext_getElem?
  intro j
  rw [wipe_get, wipe_get, List.length_set]
  by_cases q : j ∈ vs ∧ j < σ.length
  · rw [if_pos q, if_pos q]
  · rw [if_neg q, if_neg q]
    by_cases e : v = j
    · subst e
      have hl : ¬ v < σ.length := fun z => q ⟨h, z⟩
      rw [List.getElem?_eq_none (by rw [List.length_set]; omega), List.getElem?_eq_none (by omega)]
    · rw [List.getElem?_set_ne e]
/-- a comprehension over a step range -/
theorem lc_rangeC {lo c : Int} {n : Nat} {g : TG} {tt : TT} {te : TE} {vs : List Nat} {σ : L2.St} {H1 : Hp} {D : Addr} {Qd : Hp → Prop} (Pv : Nat → Hp → Prop) (h0 : Pv 0 (upd H1 D (.lst [])))
    (hs : ∀ i H, i < n → Pv i H → g (.int (lo + (i : Nat) * c)) (wipe σ vs) H fun σ2 H2 => wipe σ2 vs = wipe σ vs ∧ tt σ2 H2 fun b H3 =>
      if b = true then te σ2 H3 fun y H4 => ∃ acc, H4 D = some (.lst acc) ∧ acc.length < sizeLine ∧ Pv (i + 1) (upd H4 D (.lst (acc ++ [y]))) else Pv (i + 1) H3) (hd : ∀ H, Pv n H → Qd H) :
    ∃ W : Nat → Nat → Hp → Prop, (∃ m, W 0 m (upd H1 D (.lst []))) ∧ ∀ i m H, W i m H →
      ((Itc lo c n).stop i H ∧ Qd H) ∨ ((Itc lo c n).go i H ∧ ∃ Nx : Hp → Prop, (∀ H', Nx H' → ∃ m', m' < m ∧ W (i + 1) m' H') ∧ ∀ x H', (Itc lo c n).yld i H x H' → g x (wipe σ vs) H' fun σ2 H2 => wipe σ2 vs = wipe σ vs ∧ tt σ2 H2 fun b H3 =>
        if b = true then te σ2 H3 fun y H4 => ∃ acc, H4 D = some (.lst acc) ∧ acc.length < sizeLine ∧ Nx (upd H4 D (.lst (acc ++ [y]))) else Nx H3) := by
  refine ⟨fun i m H => m = n - i ∧ i ≤ n ∧ Pv i H, ⟨n, by simp, Nat.zero_le _, h0⟩, ?_⟩
  rintro i m H ⟨rfl, hi, p⟩
  rcases Nat.lt_or_ge i n with hlt | hge
  · refine .inr ⟨hlt, Pv (i + 1), fun H' p' => ⟨n - (i + 1), by omega, rfl, hlt, p'⟩, fun x H' y => ?_⟩
    obtain ⟨e, y⟩ := y
    subst e y
    exact hs i _ hlt p
  · cases Nat.le_antisymm hi hge
    exact .inl ⟨Nat.le_refl _, hd H p⟩

/-! ### reversed(list of ints), any(list of ints) -/
theorem pi_revK {X : Cx} {K : PySem.W.Frag} {tg : Expr} {e : Expr} {ta : TA} {p pos : Pos} (hg : Gl X "reversed") (hm : X.mg "reversed" = none) (ha : PA X [e] ta) (hK : X.K = K := by rfl) (hs : starEach [e] X.env = [(false, eval e X.env)] := by rfl) :
    PI X tg (.Call (.Name "reversed" p) [e] [] pos) (iRev K ta) := hK ▸ pi_reversed hg hm ha hs
theorem for_revI {K : PySem.W.Frag} {a : Addr} {xs : List Int} {g : TG} {tb : TS} {D : Ends} {σ : L2.St} {H : Hp} (Pv : Nat → L2.St → Hp → Prop) (h0 : Pv 0 σ H) (hl : ∀ i σ H, i ≤ (xs.reverse.map V.int).length → Pv i σ H → SqL K H a (xs.map V.int))
    (hs : ∀ i x σ H, (xs.reverse.map V.int)[i]? = some x → Pv i σ H → g x σ H fun σ2 H2 => tb { D with nx := Pv (i + 1), ct := Pv (i + 1), bk := D.nx } σ2 H2) (hd : ∀ σ H, Pv (xs.reverse.map V.int).length σ H → D.nx σ H) :
    ∃ W : Nat → Nat → L2.St → Hp → Prop, (∃ m, W 0 m σ H) ∧ ∀ i m σ H, W i m σ H →
      ((Itv K a (xs.map V.int).length).stop i H ∧ D.nx σ H) ∨ ((Itv K a (xs.map V.int).length).go i H ∧ ∃ N : L2.St → Hp → Prop, (∀ σ' H', N σ' H' → ∃ m', m' < m ∧ W (i + 1) m' σ' H') ∧ ∀ x H', (Itv K a (xs.map V.int).length).yld i H x H' → g x σ H' fun σ2 H2 => tb { D with nx := N, ct := N, bk := D.nx } σ2 H2) := by
  have en : (xs.reverse.map V.int).length = (xs.map V.int).length := by rw [List.length_map, List.length_map, List.length_reverse]
  rw [en] at hl hd
  refine for_it walk_rev Pv h0 hl (fun i x σ H H' hi p y => ?_) hd
  obtain ⟨rfl, hx⟩ := y
  refine hs i x σ _ ?_ p
  rw [List.map_reverse, List.getElem?_reverse hi]
  exact hx
theorem ints_get : ∀ {ns : List Int} {us : List Value} {i : Nat} {v : Value}, IntsAre us ns → us[i]? = some v → ∃ t, v = .int (ns.getD i 0) t := by
  intro ns us i v h
  induction h generalizing i with
  | nil => intro z; simp at z
  | cons n t _ ih =>
    intro z
    cases i with
    | zero => simp at z; exact ⟨t, by rw [← z]; rfl⟩
    | succ i => exact ih (by simpa using z)
theorem any_rangeI : ∀ ns : List Int, (List.range ns.length).any (fun i => ns.getD i 0 != 0) = ns.any (fun x => x != 0)
  | [] => rfl
  | b :: bs => by
    rw [List.length_cons, List.range_succ_eq_map, List.any_cons, List.any_map, List.any_cons, ← any_rangeI bs]
    all_goals rfl
theorem ints_len : ∀ {ns : List Int} {us : List Value}, IntsAre us ns → us.length = ns.length := by
  intro ns us h
  induction h with
  | nil => rfl
  | cons _ _ _ ih => simp [ih]
def rAnyI (K : PySem.W.Frag) : List V → Hp → VK → Prop := fun vs H Q => ∃ (a : Addr) (ns : List Int), vs = [V.ref a] ∧ SqL K H a (ns.map V.int) ∧ Q (.bl (ns.any fun x => x != 0)) H
theorem cr_anyI {X : Cx} (hc : X.calm = true) : CallR X (.builtin "any") (rAnyI X.K) := by
  intro pins s σ H vs us Q I r h
  obtain ⟨a, ns, rfl, hs, q⟩ := h
  obtain ⟨its, rv, hl, _⟩ := I.list hs
  rw [Vals.ref1 r]
  have hb := rv.ints
  refine call_any_walk (iter_any hl.isList fun s₂ e2 st hne => ?_)
  subst e2
  have ht : TruthOf X.prog X.w X.A.in1 (fun i v => its.toArray[i]? = some v) (fun i => ns.getD i 0 != 0) := fun i v s Q E hv hq => by
    obtain ⟨t, rfl⟩ := ints_get hb (by simpa using hv)
    exact PyProof.Rows.truthy_int hq
  refine ⟨_, _, _, _, _, _, _, rfl, Walks.list (A := X.A.in1) (I.ok.hd hc) _ a hne its.toArray, st, ht, fun h' tk hk => ?_⟩
  refine ⟨.bl _, H, I.kept fun b o eo => hk b o (fun hmem => ?_) (Heap.get?_push_of_some _ eo), ?_, q⟩
  · rcases List.mem_cons.mp hmem with e1 | hmem
    · exact absurd (e1 ▸ Heap.lt_size eo) (Nat.lt_irrefl _)
    · cases hmem
  · show Value.bool _ = Value.bool _
    rw [← any_rangeI, List.size_toArray, ints_len hb]
theorem cr_anyIK {X : Cx} {K : PySem.W.Frag} (hc : X.calm = true) (hK : X.K = K := by rfl) : CallR X (.builtin "any") (rAnyI K) := hK ▸ cr_anyI hc
/-- an item of a list of data stored anew -/
theorem RpAll.setM {α : Type} {f : α → PyData} {G : Hp} {vs : List V} {xs : List α} {k : Int} {v : V} {y : α} (d : RpAll G vs (xs.map f)) (r : Rp G v (f y)) : RpAll G (vs.set ((ixN vs.length k).getD 0) v) ((setL xs k y).map f) := by
  have e : vs.length = xs.length := by rw [d.len, List.length_map]
  unfold setL
  rw [List.map_set, e]
  exact RpAll.set r _ d
end Vx
/-! # data of any shape: None beside data, tuples of several shapes -/
namespace Vx
open PySem PySem.Spec PyProof.Rows L2
def encD (d : PyData) : PyData := d
def encN (_ : Unit) : PyData := .none
def encT1 {α : Type} (f : α → PyData) (x : α) : PyData := .tuple [f x]
instance instInhD : Inhabited PyData := ⟨.none⟩
/-- a known shape: what is laid, what is read back, whether the data has the shape -/
structure Cst (α : Type) where
  enc : α → PyData
  dec : PyData → α
  ok : PyData → Bool
  h : ∀ d, ok d = true → enc (dec d) = d
  oke : ∀ x, ok (enc x) = true
  de : ∀ x, dec (enc x) = x
def cI : Cst Int := ⟨PyData.int, fun d => match d with | .int i => i | _ => 0, fun d => match d with | .int _ => true | _ => false, fun d h => (by cases d <;> first | rfl | (cases h)), fun _ => rfl, fun _ => rfl⟩
def cB : Cst Bool := ⟨PyData.bool, fun d => match d with | .bool i => i | _ => false, fun d => match d with | .bool _ => true | _ => false, fun d h => (by cases d <;> first | rfl | (cases h)), fun _ => rfl, fun _ => rfl⟩
def cS : Cst Str := ⟨PyData.str, fun d => match d with | .str i => i | _ => "", fun d => match d with | .str _ => true | _ => false, fun d h => (by cases d <;> first | rfl | (cases h)), fun _ => rfl, fun _ => rfl⟩
def cN : Cst Unit := ⟨encN, fun _ => (), fun d => match d with | .none => true | _ => false, fun d h => (by cases d <;> first | rfl | (cases h)), fun _ => rfl, fun _ => rfl⟩
def cD : Cst PyData := ⟨encD, fun d => d, fun _ => true, fun _ _ => rfl, fun _ => rfl, fun _ => rfl⟩
theorem map_dec {α : Type} (c : Cst α) : ∀ xs : List PyData, xs.all c.ok = true → (xs.map c.dec).map c.enc = xs
  | [], _ => rfl
  | x :: xs, h => by
    rw [List.all_cons, Bool.and_eq_true] at h
    rw [List.map_cons, List.map_cons, c.h x h.1, map_dec c xs h.2]
def cL {α : Type} (c : Cst α) : Cst (List α) where
  enc := encL c.enc
  dec := fun d => match d with | .list xs => xs.map c.dec | _ => []
  ok := fun d => match d with | .list xs => xs.all c.ok | _ => false
  h := fun d h => by
    cases d with
    | list xs => exact congrArg PyData.list (map_dec c xs h)
    | _ => cases h
  oke := fun x => by
    show (x.map c.enc).all c.ok = true
    rw [List.all_map, List.all_eq_true]
    exact fun a _ => c.oke a
  de := fun x => by
    show (x.map c.enc).map c.dec = x
    rw [List.map_map]
    have e : c.dec ∘ c.enc = id := funext c.de
    rw [e, List.map_id]
def cT1 {α : Type} (a : Cst α) : Cst α where
  enc := encT1 a.enc
  dec := fun d => match d with | .tuple [x] => a.dec x | _ => a.dec .none
  ok := fun d => match d with | .tuple [x] => a.ok x | _ => false
  h := fun d h => by
    split at h
    · next x => exact congrArg (fun z => PyData.tuple [z]) (a.h x h)
    · cases h
  oke := fun x => a.oke x
  de := fun x => a.de x
def cT2 {α β : Type} (a : Cst α) (b : Cst β) : Cst (α × β) where
  enc := encT2 a.enc b.enc
  dec := fun d => match d with | .tuple [x, y] => (a.dec x, b.dec y) | _ => (a.dec .none, b.dec .none)
  ok := fun d => match d with | .tuple [x, y] => a.ok x && b.ok y | _ => false
  h := fun d h => by
    split at h
    · next x y =>
      rw [Bool.and_eq_true] at h
      show PyData.tuple [a.enc (a.dec x), b.enc (b.dec y)] = _
      rw [a.h x h.1, b.h y h.2]
    · cases h
  oke := fun x => by show (a.ok (a.enc x.1) && b.ok (b.enc x.2)) = true; rw [a.oke, b.oke]; rfl
  de := fun x => by show (a.dec (a.enc x.1), b.dec (b.enc x.2)) = x; rw [a.de, b.de]
def cT3 {α β γ : Type} (a : Cst α) (b : Cst β) (c : Cst γ) : Cst (α × β × γ) where
  enc := encT3 a.enc b.enc c.enc
  dec := fun d => match d with | .tuple [x, y, z] => (a.dec x, b.dec y, c.dec z) | _ => (a.dec .none, b.dec .none, c.dec .none)
  ok := fun d => match d with | .tuple [x, y, z] => a.ok x && b.ok y && c.ok z | _ => false
  h := fun d h => by
    split at h
    · next x y z =>
      simp only [Bool.and_eq_true] at h
      show PyData.tuple [a.enc (a.dec x), b.enc (b.dec y), c.enc (c.dec z)] = _
      rw [a.h x h.1.1, b.h y h.1.2, c.h z h.2]
    · cases h
  oke := fun x => by show (a.ok (a.enc x.1) && b.ok (b.enc x.2.1) && c.ok (c.enc x.2.2)) = true; rw [a.oke, b.oke, c.oke]; rfl
  de := fun x => by show (a.dec (a.enc x.1), b.dec (b.enc x.2.1), c.dec (c.enc x.2.2)) = x; rw [a.de, b.de, c.de]
def cT4 {α β γ δ : Type} (a : Cst α) (b : Cst β) (c : Cst γ) (e : Cst δ) : Cst (α × β × γ × δ) where
  enc := encT4 a.enc b.enc c.enc e.enc
  dec := fun d => match d with | .tuple [x, y, z, w] => (a.dec x, b.dec y, c.dec z, e.dec w) | _ => (a.dec .none, b.dec .none, c.dec .none, e.dec .none)
  ok := fun d => match d with | .tuple [x, y, z, w] => a.ok x && b.ok y && c.ok z && e.ok w | _ => false
  h := fun d h => by
    split at h
    · next x y z w =>
      simp only [Bool.and_eq_true] at h
      show PyData.tuple [a.enc (a.dec x), b.enc (b.dec y), c.enc (c.dec z), e.enc (e.dec w)] = _
      rw [a.h x h.1.1.1, b.h y h.1.1.2, c.h z h.1.2, e.h w h.2]
    · cases h
  oke := fun x => by show (a.ok (a.enc x.1) && b.ok (b.enc x.2.1) && c.ok (c.enc x.2.2.1) && e.ok (e.enc x.2.2.2)) = true; rw [a.oke, b.oke, c.oke, e.oke]; rfl
  de := fun x => by show (a.dec (a.enc x.1), b.dec (b.enc x.2.1), c.dec (c.enc x.2.2.1), e.dec (e.enc x.2.2.2)) = x; rw [a.de, b.de, c.de, e.de]
section
variable {H : Hp} {v : V} {d : PyData}
theorem rp_dcast {α : Type} (c : Cst α) (g : c.ok d = true) (r : Rp H v d) : Rp H v (c.enc (c.dec d)) := by rw [c.h d g]; exact r
def dNone : PyData → Bool
  | .none => true
  | _ => false
def dSeq : PyData → Bool
  | .list _ => true
  | .tuple _ => true
  | _ => false
def dTup : PyData → Bool
  | .tuple _ => true
  | _ => false
def dLst : PyData → Bool
  | .list _ => true
  | _ => false
def dInt : PyData → Bool
  | .int _ => true
  | .bool _ => true
  | _ => false
def dBool : PyData → Bool
  | .bool _ => true
  | _ => false
def dGet : PyData → Nat → PyData
  | .tuple xs, k => xs.getD k .none
  | .list xs, k => xs.getD k .none
  | _, _ => .none
def dHasT : PyData → Nat → Bool
  | .tuple xs, k => decide (k < xs.length)
  | _, _ => false
theorem rp_ref (g : dSeq d = true) (r : Rp H v d) : ∃ a, v = .ref a := by
  cases r <;> first | exact ⟨_, rfl⟩ | cases g
theorem rp_dget {k : Nat} (g : dHasT d k = true) (r : Rp H v d) : ∃ a vs u, v = .ref a ∧ H a = some (.tup vs) ∧ atI vs (k : Int) = some u ∧ Rp H u (dGet d k) := by
  cases r with
  | tup h rs =>
    rename_i ds
    have hk : k < ds.length := of_decide_eq_true g
    obtain ⟨u, h1, h2⟩ := RpAll.at' (i := k) (d := ds[k]) rs (List.getElem?_eq_getElem hk)
    refine ⟨_, _, u, rfl, h, ?_, ?_⟩
    · exact atI_nat h1
    · show Rp H u (ds.getD k .none)
      rw [List.getD_eq_getElem?_getD, List.getElem?_eq_getElem hk]
      exact h2
  | _ => cases g
theorem rp_non {x : Unit} (r : Rp H v (encN x)) : v = .non := by unfold encN at r; cases r; rfl
theorem rp_tup1 {α : Type} {f : α → PyData} {x : α} (r : Rp H v (encT1 f x)) : ∃ a v1, v = .ref a ∧ H a = some (.tup [v1]) ∧ Rp H v1 (f x) := by
  unfold encT1 at r
  cases r with
  | tup h1 h2 =>
    cases h2 with
    | cons r1 t => cases t; exact ⟨_, _, rfl, h1, r1⟩
theorem rp_mk1 {α : Type} {f : α → PyData} {a : Addr} {v1 : V} {x : α} (h1 : H a = some (.tup [v1])) (r1 : Rp H v1 (f x)) : Rp H (.ref a) (encT1 f x) := .tup h1 (.cons r1 .nil)
theorem rp_none_iff (r : Rp H v d) : decide (v = V.non) = dNone d := by
  cases r <;> simp [dNone]
end
section
variable {X : Cx}
def rIsND : R2 := fun x y H Q => ∃ d, y = .non ∧ Rp H x d ∧ Q (.bl (dNone d)) H
def rNotND : R2 := fun x y H Q => ∃ d, y = .non ∧ Rp H x d ∧ Q (.bl (!dNone d)) H
theorem op_isND : OpR X (compareOp .Is) rIsND := by
  intro pins s σ H x y v u Q I rx ry h
  obtain ⟨d, e, r, q⟩ := h
  exact op_isN pins s σ H x y v u Q I rx ry ⟨e, by rw [rp_none_iff r]; exact q⟩
theorem op_notND : OpR X (compareOp .IsNot) rNotND := by
  intro pins s σ H x y v u Q I rx ry h
  obtain ⟨d, e, r, q⟩ := h
  exact op_notN pins s σ H x y v u Q I rx ry ⟨e, by rw [rp_none_iff r]; exact q⟩
def rEqD : R2 := fun x y H Q => ∃ a b : PyData, Rp H x a ∧ Rp H y b ∧ (SeqAt.shaped a = true ∧ SeqAt.shaped b = true) ∧ Q (.bl (PyData.eqv a b)) H
def rNeD : R2 := fun x y H Q => ∃ a b : PyData, Rp H x a ∧ Rp H y b ∧ (SeqAt.shaped a = true ∧ SeqAt.shaped b = true) ∧ Q (.bl (!PyData.eqv a b)) H
theorem op_eqDD (hu : X.A.units + 64 < cLine) : OpR X (compareOp .Eq) rEqD := by
  intro pins s σ H x y v u Q I rx ry h
  obtain ⟨a, b, h1, h2, ⟨s1, s2⟩, q⟩ := h
  exact op_eqD hu pins s σ H _ _ v u Q I rx ry ⟨_, _, h1.dp, h2.dp, s1, s2, q⟩
theorem op_neDD (hu : X.A.units + 64 < cLine) : OpR X (compareOp .NotEq) rNeD := by
  intro pins s σ H x y v u Q I rx ry h
  obtain ⟨a, b, h1, h2, ⟨s1, s2⟩, q⟩ := h
  exact op_neD hu pins s σ H _ _ v u Q I rx ry ⟨_, _, h1.dp, h2.dp, s1, s2, q⟩
def dTy : PyData → String
  | .none => "NoneType"
  | .bool _ => "bool"
  | .int _ => "int"
  | .str _ => "str"
  | .list _ => "list"
  | .tuple _ => "tuple"
  | .dict _ => "dict"
theorem Rp.tyX {K : PySem.W.Frag} {H : Hp} {v : V} {d : PyData} (r : Rp H v d) : TyX K H v (.type (dTy d)) := by
  cases r with
  | non => exact .base .non
  | bl b => exact .base (.bl b)
  | int i => exact .base (.int i)
  | str x => exact .base (.str x)
  | lst h _ => exact .base (.lst h)
  | tup h _ => exact .base (.tup h)
def rIsiD (T : String) (f : PyData → Bool) : List V → Hp → VK → Prop := fun xs H Q => ∃ (x : V) (d : PyData), xs = [x, .ty T] ∧ Rp H x d ∧ Q (.bl (f d)) H
theorem call_isiD {T : String} {f : PyData → Bool} (hT : ∀ d, kitB (dTy d) T = some (f d)) : CallR X (.builtin "isinstance") (rIsiD T f) := by
  intro pins s σ H xs us Q I r h
  obtain ⟨x, d, rfl, rx, q⟩ := h
  exact call_isi pins s σ H _ us Q I r ⟨x, .ty T, _, _, _, rfl, .ty T, rx.tyX, kit_ty (hT d), q⟩
theorem kit_dTup (d : PyData) : kitB (dTy d) "tuple" = some (dTup d) := by
  cases d with
  | none => exact (by decide +kernel : kitB "NoneType" "tuple" = some false)
  | bool _ => exact (by decide +kernel : kitB "bool" "tuple" = some false)
  | int _ => exact (by decide +kernel : kitB "int" "tuple" = some false)
  | str _ => exact (by decide +kernel : kitB "str" "tuple" = some false)
  | list _ => exact (by decide +kernel : kitB "list" "tuple" = some false)
  | tuple _ => exact (by decide +kernel : kitB "tuple" "tuple" = some true)
  | dict _ => exact (by decide +kernel : kitB "dict" "tuple" = some false)
theorem kit_dLst (d : PyData) : kitB (dTy d) "list" = some (dLst d) := by
  cases d with
  | none => exact (by decide +kernel : kitB "NoneType" "list" = some false)
  | bool _ => exact (by decide +kernel : kitB "bool" "list" = some false)
  | int _ => exact (by decide +kernel : kitB "int" "list" = some false)
  | str _ => exact (by decide +kernel : kitB "str" "list" = some false)
  | list _ => exact (by decide +kernel : kitB "list" "list" = some true)
  | tuple _ => exact (by decide +kernel : kitB "tuple" "list" = some false)
  | dict _ => exact (by decide +kernel : kitB "dict" "list" = some false)
theorem kit_dInt (d : PyData) : kitB (dTy d) "int" = some (dInt d) := by
  cases d with
  | none => exact (by decide +kernel : kitB "NoneType" "int" = some false)
  | bool _ => exact (by decide +kernel : kitB "bool" "int" = some true)
  | int _ => exact (by decide +kernel : kitB "int" "int" = some true)
  | str _ => exact (by decide +kernel : kitB "str" "int" = some false)
  | list _ => exact (by decide +kernel : kitB "list" "int" = some false)
  | tuple _ => exact (by decide +kernel : kitB "tuple" "int" = some false)
  | dict _ => exact (by decide +kernel : kitB "dict" "int" = some false)
theorem kit_dBool (d : PyData) : kitB (dTy d) "bool" = some (dBool d) := by
  cases d with
  | none => exact (by decide +kernel : kitB "NoneType" "bool" = some false)
  | bool _ => exact (by decide +kernel : kitB "bool" "bool" = some true)
  | int _ => exact (by decide +kernel : kitB "int" "bool" = some false)
  | str _ => exact (by decide +kernel : kitB "str" "bool" = some false)
  | list _ => exact (by decide +kernel : kitB "list" "bool" = some false)
  | tuple _ => exact (by decide +kernel : kitB "tuple" "bool" = some false)
  | dict _ => exact (by decide +kernel : kitB "dict" "bool" = some false)
end
/-! ### written dicts of numbers with text keys -/
inductive ES (P : Params) : List (Str × Int) → List DictEntry → Prop
  | nil : ES P [] []
  | cons {h k v} {t u : Tok} {r : List (Str × Int)} {es : List DictEntry} (e : h = PyData.keyHash P k) (x : ES P r es) : ES P ((k, v) :: r) (⟨h, .str k t, .int v u⟩ :: es)
def lookS : List (Str × Int) → Str → Option Int
  | [], _ => none
  | (k, v) :: r, i => if k = i then some v else lookS r i
def KDS (K : PySem.W.Frag) (w : World) (a : Addr) (kvs : List (Str × Int)) : Prop :=
  ∃ es n, K.lookup a = some ⟨.type "dict", none, .dict es n, #[]⟩ ∧ ES w.params kvs es.toList
theorem ES.lit {P : Params} : ∀ {kvs : List (Str × Int)} {es : List DictEntry}, ES P kvs es → PySem.W.KeysLit P es
  | _, _, .nil => trivial
  | _, _, .cons e x => ⟨⟨_, _, rfl, e⟩, ES.lit x⟩
theorem ES.find {P : Params} {i : Str} {v : Int} : ∀ {kvs : List (Str × Int)} {es : List DictEntry}, ES P kvs es → lookS kvs i = some v → ∃ e u, es.find? (fun e => e.key.isStr i) = some e ∧ e.val = .int v u
  | _, _, .nil, h => by cases h
  | _, _, .cons (k := k) (u := u) e x, h => by
    unfold lookS at h
    by_cases q : k = i
    · rw [if_pos q] at h
      subst q
      cases h
      refine ⟨_, u, List.find?_cons_of_pos ?_, rfl⟩
      simp [Value.isStr]
    · rw [if_neg q] at h
      obtain ⟨e', u', h1, h2⟩ := ES.find x h
      refine ⟨e', u', ?_, h2⟩
      rw [List.find?_cons_of_neg]
      · exact h1
      · simp [Value.isStr, q]
theorem KDS.at {K : PySem.W.Frag} {w : World} {a : Addr} {kvs : List (Str × Int)} {z : Str} {v : Int} (D : KDS K w a kvs) (h : lookS kvs z = some v) : KDct K w a z (.int v) := by
  obtain ⟨es, n, hl, x⟩ := D
  obtain ⟨e, u, h1, h2⟩ := x.find h
  refine ⟨es, n, .int v u, hl, x.lit, ?_, ⟨u, rfl⟩⟩
  unfold PySem.W.nsIn
  rw [hl]
  show (match es.toList.find? (fun e => e.key.isStr z) with
      | some e => some (some e.val)
      | none => if es.toList.any (·.refKey) then none else some none) = _
  rw [h1]
  show some (some e.val) = _
  rw [h2]
def rIxDS (K : PySem.W.Frag) (w : World) : R2 := fun x y H Q => ∃ (p : Addr) (z : Str) (kvs : List (Str × Int)) (v : Int), x = .ref p ∧ y = .str z ∧ KDS K w p kvs ∧ lookS kvs z = some v ∧ Q (.int v) H
theorem ix_DS {X : Cx} {K : PySem.W.Frag} {w : World} (hK : X.K = K := by rfl) (hw : X.w = w := by rfl) : IxR X (rIxDS K w) := by
  subst hK hw
  intro value slice pins s σ H x y v u Q I rx ry h hs
  obtain ⟨p, z, kvs, r, e1, e2, D, e, q⟩ := h
  exact ix_kdict value slice pins s σ H x y v u Q I rx ry ⟨p, z, .int r, e1, e2, D.at e, q⟩ hs
def dictS (kvs : List (Str × Int)) (i : Str) : Int := (lookS kvs i).getD 0
def hasS (kvs : List (Str × Int)) (i : Str) : Bool := (lookS kvs i).isSome
theorem lookS_at {kvs : List (Str × Int)} {i : Str} (h : hasS kvs i = true) : lookS kvs i = some (dictS kvs i) := by
  unfold hasS at h
  unfold dictS
  cases e : lookS kvs i with
  | none => rw [e] at h; cases h
  | some v => rfl
/-! ### for the mathematics -/
theorem eqv_enc {α : Type} [DecidableEq α] {n : Nat} {f : α → PyData} (ok : EncOk n f) (x y : α) : PyData.eqv (f x) (f y) = decide (x = y) := ok.eqv x y
end Vx
namespace Vx
open PySem PySem.Spec PyProof.Rows L2
theorem sm_str {x : Str} (h : (reprText x).length ≤ 20) : Sm 1 0 (.str x) := ⟨by simp only [smallD, decide_eq_true_eq]; exact h, by simp [nodes], by simp [PyData.depth]⟩
theorem sm_none : Sm 1 0 (encN ()) := sm_non
theorem sm_T1 {α : Type} {f : α → PyData} {n k : Nat} {p : α} (h1 : Sm n k (f p)) : Sm (1 + n) (k + 1) (encT1 f p) := by
  obtain ⟨a1, a2, a3⟩ := h1
  refine ⟨by simp [encT1, smallD, smallAll, a1], ?_, ?_⟩
  · simp only [encT1, nodes, nodesAll]
    omega
  · simp only [encT1, PyData.depth, PyData.depthAll]
    omega
theorem sm_T4 {α β γ δ : Type} {f : α → PyData} {g : β → PyData} {h : γ → PyData} {e : δ → PyData} {n k m j l i o q : Nat} {p : α × β × γ × δ} (h1 : Sm n k (f p.1)) (h2 : Sm m j (g p.2.1)) (h3 : Sm l i (h p.2.2.1)) (h4 : Sm o q (e p.2.2.2)) : Sm (1 + n + m + l + o) (max k (max j (max i q)) + 1) (encT4 f g h e p) := by
  obtain ⟨a1, a2, a3⟩ := h1
  obtain ⟨b1, b2, b3⟩ := h2
  obtain ⟨c1, c2, c3⟩ := h3
  obtain ⟨d1, d2, d3⟩ := h4
  refine ⟨by simp [encT4, smallD, smallAll, a1, b1, c1, d1], ?_, ?_⟩
  · simp only [encT4, nodes, nodesAll]
    omega
  · simp only [encT4, PyData.depth, PyData.depthAll]
    omega
theorem Sm.enc {n k : Nat} {d : PyData} (h : Sm n k d) : Sm n k (encD d) := h
end Vx
namespace Vx
theorem len8 {α : Type} {l : List α} (h : l.length = 8) : ∃ x0 x1 x2 x3 x4 x5 x6 x7, l = [x0, x1, x2, x3, x4, x5, x6, x7] := by
  obtain ⟨x0, r, rfl, h2⟩ := len_s h
  obtain ⟨x1, x2, x3, x4, x5, x6, x7, rfl⟩ := len7 h2
  exact ⟨x0, x1, x2, x3, x4, x5, x6, x7, rfl⟩
theorem len9 {α : Type} {l : List α} (h : l.length = 9) : ∃ x0 x1 x2 x3 x4 x5 x6 x7 x8, l = [x0, x1, x2, x3, x4, x5, x6, x7, x8] := by
  obtain ⟨x0, r, rfl, h2⟩ := len_s h
  obtain ⟨x1, x2, x3, x4, x5, x6, x7, x8, rfl⟩ := len8 h2
  exact ⟨x0, x1, x2, x3, x4, x5, x6, x7, x8, rfl⟩
theorem len10 {α : Type} {l : List α} (h : l.length = 10) : ∃ x0 x1 x2 x3 x4 x5 x6 x7 x8 x9, l = [x0, x1, x2, x3, x4, x5, x6, x7, x8, x9] := by
  obtain ⟨x0, r, rfl, h2⟩ := len_s h
  obtain ⟨x1, x2, x3, x4, x5, x6, x7, x8, x9, rfl⟩ := len9 h2
  exact ⟨x0, x1, x2, x3, x4, x5, x6, x7, x8, x9, rfl⟩
theorem len11 {α : Type} {l : List α} (h : l.length = 11) : ∃ x0 x1 x2 x3 x4 x5 x6 x7 x8 x9 x10, l = [x0, x1, x2, x3, x4, x5, x6, x7, x8, x9, x10] := by
  obtain ⟨x0, r, rfl, h2⟩ := len_s h
  obtain ⟨x1, x2, x3, x4, x5, x6, x7, x8, x9, x10, rfl⟩ := len10 h2
  exact ⟨x0, x1, x2, x3, x4, x5, x6, x7, x8, x9, x10, rfl⟩
theorem len12 {α : Type} {l : List α} (h : l.length = 12) : ∃ x0 x1 x2 x3 x4 x5 x6 x7 x8 x9 x10 x11, l = [x0, x1, x2, x3, x4, x5, x6, x7, x8, x9, x10, x11] := by
  obtain ⟨x0, r, rfl, h2⟩ := len_s h
  obtain ⟨x1, x2, x3, x4, x5, x6, x7, x8, x9, x10, x11, rfl⟩ := len11 h2
  exact ⟨x0, x1, x2, x3, x4, x5, x6, x7, x8, x9, x10, x11, rfl⟩
end Vx
namespace Vx
open PySem PySem.Spec PyProof.Rows L2
theorem Sep.mutnews {M : List Addr} {H0 G0 G H H' : Hp} {O : List Addr} (S : Sep M H0 G0 G H O) {L : List Addr} (x : SameXs L H H') (hL : ∀ a ∈ L, a ∈ O) (hs : ∀ a ∈ L, H' a ≠ none) (N : List Addr) (hN : ∀ a ∈ N, H a = none ∧ H' a ≠ none ∧ H0 a = none) : Sep M H0 G0 G H' (N ++ O) := by
  have S1 := S.mut x hL hs
  refine ⟨S1.base, S1.pm, S1.sG, S1.g0, S1.gn, fun a ha => ?_⟩
  rcases List.mem_append.mp ha with z | z
  · obtain ⟨h1, h2, h3⟩ := hN a z
    exact ⟨S.gfree h1, h2, .inr h3⟩
  · exact S1.ow a z
end Vx
/-! # try with several clauses that name the exception -/
namespace Ve
open PySem PySem.Spec PyProof.Rows L2
abbrev Suite := Addr → Value → Option Addr → TS
/-- what a list of clauses wishes: the first whose class fits, and its suite; none: the outer wish -/
def wCl (K : PySem.W.Frag) (Wout : WX) (D : Ends) : List (Value × Nat × Suite) → WX
  | [] => Wout
  | c :: r => wAs K c.1 c.2.1 c.2.2 (wCl K Wout D r) D
/-- one clause `except x as n: suite` -/
structure ClOk (X : Cx) (h : ExceptHandler) (c : Value × Nat × Suite) : Prop where
  ex : ∃ (x n : Str) (b₀ : Stmt) (suite : List Stmt) (np p : Pos), h = .ExceptHandler (some (.Name x np)) (some n) (b₀ :: suite) p ∧ Names X x c.1 ∧ X.N[c.2.1]? = some n ∧ X.env.kindOf n = some .local ∧
    ∀ (a : Addr) (oe : Obj) (cls : Value) (d : Option Addr) (pn : List (Addr × Obj)), Zc cls d oe → (∃ vs, oe.data = .fields vs) → PSs (X.suite a ((a, oe) :: pn)) (b₀ :: suite) (c.2.2 a cls d)
inductive ClsOk (X : Cx) : List ExceptHandler → List (Value × Nat × Suite) → Prop
  | nil : ClsOk X [] []
  | cons {h : ExceptHandler} {hs : List ExceptHandler} {c : Value × Nat × Suite} {cs : List (Value × Nat × Suite)} : ClOk X h c → ClsOk X hs cs → ClsOk X (h :: hs) (c :: cs)
theorem cl_mk {X : Cx} {x n : Str} {b₀ : Stmt} {suite : List Stmt} {np p : Pos} {cv : Value} {i : Nat} {ts : Suite} (nm : Names X x cv) (hi : X.N[i]? = some n) (hln : X.env.kindOf n = some .local)
    (hsu : ∀ (a : Addr) (oe : Obj) (cls : Value) (d : Option Addr) (pn : List (Addr × Obj)), Zc cls d oe → (∃ vs, oe.data = .fields vs) → PSs (X.suite a ((a, oe) :: pn)) (b₀ :: suite) (ts a cls d)) : ClOk X (.ExceptHandler (some (.Name x np)) (some n) (b₀ :: suite) p) (cv, i, ts) :=
  ⟨⟨x, n, b₀, suite, np, p, rfl, nm, hi, hln, hsu⟩⟩
section
variable {X : Cx} {body : List Stmt} {h₀ : ExceptHandler} {hds : List ExceptHandler} {cs : List (Value × Nat × Suite)} {pos : Pos} {tb : WX → TS} {Wout : WX}
theorem ps_try_cls (hs : X.stack = X.env :: X.outer) (hf : X.env.frame = some X.env.locals) (hN : X.N.Nodup) (tk : Takes X Wout)
    (hb : ∀ (W : WX) (pn : List (Addr × Obj)) (xe : Value → Shared → Prop), Takes (X.tr pn xe) W → PassesOwn (model X.prog X.w) X.A X.env xe → PSs (X.tr pn xe) body (tb W))
    (hh : ClsOk X (h₀ :: hds) cs) : PS X (.Try body (h₀ :: hds) [] [] pos) (fun D σ H => tb (wCl X.K Wout D cs) D σ H) := by
  refine ⟨fun pins s σ H D I h => ?_⟩
  have ok := I.ok
  have hfr : X.A.frames = some (X.env :: X.outer) := by rw [ok.frames, hs]
  refine wpAny_Try_except ?_
  let R : Flow → Shared → Prop := SP X pins D
  refine wpAny_mono ((hb (wCl X.K Wout D cs) (X.pn ++ pins) (fun e s₁ => wpAny (model X.prog X.w) X.A (noteFrame e X.env) (fun _ s₂ => wpAny (model X.prog X.w) X.A (setFlight e none) (fun _ s₃ =>
    wpAny (model X.prog X.w) X.A (handleBy e X.env (h₀ :: hds)) R X.xe s₃) X.xe s₂) X.xe s₁) (fun u s' xx => ?_) PassesOwn.looking).run [] s σ H D (I.toTry _) h) (fun f s1 hsp => ?_) (fun e s1 he => he)
  · obtain ⟨a, B, sI, pins', σ', H', cls, d, rfl, J', nb, up, sky, na, os, ag, w⟩ := xx
    have J : Inv X pins σ' H' sI := J'.ofTry ok
    have sky' : Sky B (X.env :: X.outer) a (Zc cls d) X.env.locals s'.heap := by rw [← hs]; exact sky
    show wpAny (model X.prog X.w) X.A (noteFrame (.ref a) X.env) _ _ _
    refine Sky.land Zc.steady hfr hf sky' fun h3 fl3 up3 => ?_
    have up13 := up.trans up3
    have J3 : Inv X pins σ' H' { s' with heap := h3 } := J.landed nb fl3.1 up13 os ag
    obtain ⟨oe3, vs3, he3, hz3, hd3⟩ := fl3.there
    have away : a ∉ frs (X.env :: X.outer) := fun hm => by
      obtain ⟨_, o', e', hnf⟩ := fl3.2.2.1.mem hm
      rw [he3] at e'
      cases e'
      exact hnf _ hd3
    have nL : a ≠ X.env.locals := fun z => away (List.mem_filterMap.mpr ⟨X.env, List.mem_cons_self, by rw [hf, z]⟩)
    have nF : a ∉ X.fs := fun hm => by
      obtain ⟨e, he, q⟩ := List.mem_filterMap.mp hm
      exact away (List.mem_filterMap.mpr ⟨e, List.mem_cons_of_mem _ he, q⟩)
    have S3 := J3.suite he3 hd3 na nL nF
    have each : ∀ {hs2 : List ExceptHandler} {cs2 : List (Value × Nat × Suite)}, ClsOk X hs2 cs2 → wCl X.K Wout D cs2 cls d σ' H' → wpAny (model X.prog X.w) X.A (handleBy (.ref a) X.env hs2) R X.xe { s' with heap := h3 } := by
      intro hs2 cs2 hk
      induction hk with
      | nil =>
        intro w
        refine wpAny_handleBy_nil ?_
        obtain ⟨_, _, _, oe, vs, T, oT, ts', he, _, hd, h1, _⟩ := id fl3
        unfold PySem.passOn
        refine wpAny_bind (wpAny_field he hd h1 ?_)
        rw [if_neg (show ¬ ((Value.ref T == Value.none) = true) from by simp)]
        have out : wpAny (model X.prog X.w) X.A (setFlight (.ref a) X.env.frame) (fun _ s4 => wpAny (model X.prog X.w) X.A (throw (.ref a) : Sem Flow) R X.xe s4) X.xe { s' with heap := h3 } := by
          rw [hf]
          exact HandSPX.setFlight_upZ fl3 fun h4 hh4 up4 => wpAny_throw (tk _ _ ⟨a, B, sI, pins, σ', H', cls, d, rfl, J, nb, up13.trans up4, .inr (.inr (by rw [hs]; exact hh4)), na, os, ag, w⟩)
        first
          | exact wpAny_bind (wpAny_pure (wpAny_bind out))
          | exact wpAny_bind out
      | cons hc _ ih =>
        intro w
        obtain ⟨x, n, b₀, suite, np, p, rfl, nm, hi, hln, hsu⟩ := hc.ex
        obtain ⟨b, hb1, yes, no⟩ := w
        refine wpAny_handleBy_cons (codeAny_handlers_test ?_) (by intro q; cases q)
        have LM := PySem.W.exm_one (M := model X.prog X.w) (J3.kIn) (show PySem.W.Looks (model X.prog X.w) h3 (typeOf (.ref a)) cls from fun A Q E s k q => wpAny_typeOf_ref (k _ _ he3) (by rw [hz3.1]; exact q)) hb1
        have named : ∀ {Q : Value → Shared → Prop} {E : Value → Shared → Prop}, Q _ { s' with heap := h3 } → wpAny (model X.prog X.w) (X.A.mark (some (.ref a))) (eval (.Name x np) X.env) Q E { s' with heap := h3 } := fun {Q E} q => by
          obtain ⟨hg, hdbg, hm | ⟨hm, hv, hnn⟩⟩ := nm
          · exact ld_glob (X := X.suite a ((a, oe3) :: (X.pn ++ pins))) S3 hg hm q hdbg
          · exact ld_blt (X := X.suite a ((a, oe3) :: (X.pn ++ pins))) S3 hg hm hv q hnn hdbg
        refine named (LM.here ?_)
        cases b with
        | false => exact ih (no rfl)
        | true =>
          refine codeAny_handlers_suite_as ?_
          refine HandSPX.lands_againZ fl3 fun h4 fl4 up4 => ?_
          have J4 : Inv X pins σ' H' { s' with heap := h4 } := J.landed nb fl4.1 (up13.trans up4) os ag
          obtain ⟨oe4, vs4, he4, hz4, hd4⟩ := fl4.there
          have S4 := J4.suite he4 hd4 na nL nF
          refine store_ok (X := X.suite a ((a, oe4) :: (X.pn ++ pins))) (v := .ref a) S4 hN hi (.inl hln) rfl (fun s5 S5 => ?_) (.inr hln)
          have fin : ∀ {σ6 : L2.St} {H6 : Hp} {s6 : Shared} {Q : Shared → Prop}, Inv (X.suite a ((a, oe4) :: (X.pn ++ pins))) [] σ6 H6 s6 → (∀ s7, Inv X pins (σ6.set _ none) H6 s7 → Q s7) →
              wpAny (model X.prog X.w) X.A (do bindName X.env n .none; unbindBehindTheSuite X.env n p) (fun _ s7 => Q s7) X.xe s6 := fun S6 hq => gone_ok (S6.unsuite ok) hN hi hln hq
          refine wpAny_mono ((hsu a oe4 cls d (X.pn ++ pins) hz4 ⟨_, hd4⟩).run [] s5 _ H' _ S5 (yes rfl a na)) (fun f s6 hsp => ?_) (fun _ _ z => False.elim z)
          cases f with
          | ret u =>
            obtain ⟨v6, σ6, H6, S6, r6, q6⟩ := hsp
            exact fin S6 fun s7 J7 => ⟨_, _, _, J7, r6, q6⟩
          | next =>
            obtain ⟨σ6, H6, S6, q6⟩ := hsp
            exact fin S6 fun s7 J7 => ⟨_, _, J7, q6⟩
          | brk =>
            obtain ⟨σ6, H6, S6, q6⟩ := hsp
            exact fin S6 fun s7 J7 => ⟨_, _, J7, q6⟩
          | cont =>
            obtain ⟨σ6, H6, S6, q6⟩ := hsp
            exact fin S6 fun s7 J7 => ⟨_, _, J7, q6⟩
    exact each hh w
  · cases f with
    | ret u =>
      obtain ⟨v, σ', H', J', r, q⟩ := hsp
      exact ⟨v, σ', H', J'.ofTry ok, r, q⟩
    | next =>
      obtain ⟨σ', H', J', q⟩ := hsp
      exact wpAny_execs_nil ⟨σ', H', J'.ofTry ok, q⟩
    | brk =>
      obtain ⟨σ', H', J', q⟩ := hsp
      exact ⟨σ', H', J'.ofTry ok, q⟩
    | cont =>
      obtain ⟨σ', H', J', q⟩ := hsp
      exact ⟨σ', H', J'.ofTry ok, q⟩
end
end Ve
namespace Vx
open PySem PySem.Spec PyProof.Rows L2
theorem exm_mk0 {K : PySem.W.Frag} {S C : Addr} (h1 : PySem.W.subIn K (.ref C) (.type "BaseException") = some true) (h0 : (Value.ref S == Value.ref C) = false) (h2 : PySem.W.isClsIn K C = true) (h3 : PySem.W.typeIn K (.ref C) = some (.type "type")) (h4 : PySem.W.subIn K (.ref S) (.ref C) = some false) :
    PySem.W.exmOne K (.ref S) (.ref C) = some false := by
  unfold PySem.W.exmOne
  rw [h1]
  have k := kit_mk0 (K := K) h0 h2 h3 h4
  unfold PySem.W.kitOne at k
  simpa [h0] using k
theorem Sep.mutstep {M : List Addr} {H0 G0 G H H' : Hp} {O : List Addr} (S : Sep M H0 G0 G H O) {L : List Addr} (x : SameXs L H H') (hL : ∀ a ∈ L, a ∈ O) (hs : ∀ a ∈ L, H' a ≠ none) {G' : Hp} (eG : Same G G') (sG : Same G' H') (hn : ∀ b, H b ≠ none → G b = none → G' b = none) : Sep M H0 G0 G' H' O := by
  have S1 := S.mut x hL hs
  exact ⟨S1.base, S1.pm, sG, S.g0.trans eG, fun b hb gb => hn b (fun z => hb (S.free z)) (S.gn b hb gb), fun a ha => ⟨hn a (S.ow a ha).2.1 (S.ow a ha).1, (S1.ow a ha).2⟩⟩
end Vx
/-! # trees that are changed from outside; trees within objects -/
namespace Vx
open PySem PySem.Spec PyProof.Rows L2
section
variable {M : List Addr} {H0 G0 G H H' : Hp} {O : List Addr}
/-- a change of what is owned, by which trees grow and data come to stay -/
theorem Sep.mutgrow (S : Sep M H0 G0 G H O) {G' : Hp} {L : List Addr} (x : SameXs L H H') (hL : ∀ a ∈ L, a ∈ O) (hs : ∀ a ∈ L, H' a ≠ none) (eG : Same G G') (sG : Same G' H') (hn : ∀ b, H b ≠ none → G b = none → G' b = none)
    {O' : List Addr} (hO : ∀ b ∈ O', b ∈ O ∨ (H b = none ∧ G' b = none ∧ H' b ≠ none)) : Sep M H0 G0 G' H' O' := by
  have S1 := S.mut x hL hs
  have there : ∀ b, H b ≠ none → H' b ≠ none := fun b h => by
    by_cases hb : b ∈ L
    · exact hs b hb
    · cases q : H b with
      | none => exact absurd q h
      | some o => exact some_ne (x b o q hb)
  refine ⟨S1.base, S1.pm, sG, S.g0.trans eG, fun b hb gb => hn b (fun z => hb (S.free z)) (S.gn b hb gb), fun b hb => ?_⟩
  rcases hO b hb with h | ⟨h1, h2, h3⟩
  · obtain ⟨g, h, m⟩ := S.ow b h
    exact ⟨hn b h g, there b h, m⟩
  · exact ⟨h2, h3, .inr (S.free h1)⟩
/-- what is borrowed is none of what a callee may change -/
theorem Sep.bhide (S : Sep M H0 G0 G H O) {L : List Addr} (h : ∀ a ∈ L, a ∈ O) : Same (hideL M H0) (hideL L H) := fun b o e => by
  rw [hideL_out fun z => b_ne e S (h b z) rfl]
  exact S.bM b o e
end
theorem grown_ne {H : Hp} {L F : List Addr} {x : Addr} (s : ∀ b ∈ L, b ∈ F ∨ H b = none) (n : ∀ b ∈ F, b ≠ x) (h : H x ≠ none) : ∀ b ∈ L, b ≠ x := fun b hb z => by
  rcases s b hb with q | q
  · exact n b q z
  · exact h (z ▸ q)
theorem grown_nl {H : Hp} {L F L2 : List Addr} (s : ∀ b ∈ L, b ∈ F ∨ H b = none) (n : ∀ b ∈ F, b ∉ L2) (h : ∀ b ∈ L2, H b ≠ none) : ∀ b ∈ L, b ∉ L2 := fun b hb z => by
  rcases s b hb with q | q
  · exact n b q z
  · exact h b z q
section
variable {α : Type} {f : α → PyData} {G H : Hp} {a : Addr}
theorem rp_listAt {xs : List α} (r : Rp H (.ref a) (encL f xs)) : ∃ vs, H a = some (.lst vs) ∧ RpAll H vs (xs.map f) := by
  obtain ⟨b, vs, e, h, d⟩ := rp_list r
  cases e
  exact ⟨vs, h, d⟩
theorem OwAll.frzs : ∀ {vs : List V} {xs : List α}, RpAll G vs (xs.map f) → OwAll G H [] vs (xs.map (oF f))
  | _, [], .nil => .nil
  | _, _ :: _, .cons r t => .cons (L1 := []) (L2 := []) (.frz r) (OwAll.frzs t) (fun _ z => nomatch z)
theorem OwAll.toFrzs : ∀ {L : List Addr} {vs : List V} {xs : List α}, OwAll G H L vs (xs.map (oF f)) → RpAll G vs (xs.map f)
  | _, _, [], .nil => .nil
  | _, _, x :: xs, .cons a r _ => by
    cases a with
    | frz z => exact .cons z (OwAll.toFrzs r)
end
theorem rp_dgetI {H : Hp} {v : V} {d : PyData} {k : Int} (g : (0 : Int) ≤ k ∧ dHasT d (Int.toNat k) = true) (r : Rp H v d) : ∃ a vs u, v = .ref a ∧ H a = some (.tup vs) ∧ atI vs k = some u ∧ Rp H u (dGet d (Int.toNat k)) := by
  obtain ⟨a, vs, u, e, h, x, y⟩ := rp_dget g.2 r
  rw [Int.toNat_of_nonneg g.1] at x
  exact ⟨a, vs, u, e, h, x, y⟩
/-! ### what may be None -/
def OptF {α : Type} (G hp : Hp) (v : V) (x : Option (List α)) (f : α → PyData) : Prop := match x with
  | none => v = .non
  | some xs => ∃ a vs, v = .ref a ∧ hp a = some (.lst vs) ∧ RpAll G vs (xs.map f)
def optE {α β : Type} (x : Option α) (a : Rx β) (b : α → Rx β) : Rx β := match x with
  | none => a
  | some y => b y
theorem cW_optN {α β : Type} {a : Rx β} {b : α → Rx β} {K : β → Prop} {E : Nat → Prop} (h : cW (optE none a b) K E) : cW a K E := h
theorem cW_optS {α β : Type} {y : α} {a : Rx β} {b : α → Rx β} {K : β → Prop} {E : Nat → Prop} (h : cW (optE (some y) a b) K E) : cW (b y) K E := h
/-! ### sorted(list of ints) -/
def insI (x : Int) : List Int → List Int
  | [] => [x]
  | y :: r => if x ≤ y then x :: y :: r else y :: insI x r
def sortL (xs : List Int) : List Int := xs.foldr insI []
theorem insI_perm {x : Int} : ∀ {l : List Int}, (insI x l).Perm (x :: l)
  | [] => .refl _
  | y :: r => by
    unfold insI
    split
    · exact .refl _
    · exact ((insI_perm (l := r)).cons y).trans (.swap x y r)
theorem sortL_perm : ∀ l : List Int, (sortL l).Perm l
  | [] => .refl _
  | x :: r => (insI_perm (l := sortL r)).trans ((sortL_perm r).cons x)
theorem insI_pw {x : Int} : ∀ {l : List Int}, l.Pairwise (· ≤ ·) → (insI x l).Pairwise (· ≤ ·)
  | [], _ => List.pairwise_singleton _ _
  | y :: r, h => by
    obtain ⟨h1, h2⟩ := List.pairwise_cons.mp h
    unfold insI
    split
    · rename_i c
      refine List.pairwise_cons.mpr ⟨fun z hz => ?_, h⟩
      rcases List.mem_cons.mp hz with rfl | hz
      · exact c
      · exact Int.le_trans c (h1 z hz)
    · rename_i c
      refine List.pairwise_cons.mpr ⟨fun z hz => ?_, insI_pw h2⟩
      rcases List.mem_cons.mp ((insI_perm (l := r)).mem_iff.mp hz) with rfl | hz
      · omega
      · exact h1 z hz
theorem sortL_pw : ∀ l : List Int, (sortL l).Pairwise (· ≤ ·)
  | [] => List.Pairwise.nil
  | _ :: r => insI_pw (sortL_pw r)
theorem sortL_of {ns ks : List Int} (p : ns.Perm ks) (h : ns.Pairwise (· ≤ ·)) : ns = sortL ks :=
  (p.trans (sortL_perm ks).symm).eq_of_pairwise (fun _ _ _ _ a b => Int.le_antisymm a b) h (sortL_pw ks)
def rSortL (K : PySem.W.Frag) : List V → Hp → VK → Prop := fun xs H Q => ∃ (a : Addr) (ns : List Int), xs = [.ref a] ∧ SqL K H a (ns.map V.int) ∧ ∀ p, H p = none → Q (.ref p) (upd H p (.lst ((sortL ns).map V.int)))
theorem cr_sortL {X : Cx} {K : PySem.W.Frag} (hK : X.K = K := by rfl) : CallR X (.builtin "sorted") (rSortL K) := by
  subst hK
  intro pins s σ H vs us Q I r h
  obtain ⟨a, ns, e, hs, q⟩ := h
  refine cr_sortedI pins s σ H vs us Q I r ⟨a, ns, e, hs, fun ns' p pm pw hp => ?_⟩
  rw [sortL_of pm pw]
  exact q p hp
/-! ### trees given away, put together -/
theorem taken_ne1 {H : Hp} {F : List Addr} {a x : Addr} (s : a ∈ F ∨ H a = none) (n : ∀ b ∈ F, b ≠ x) (h : H x ≠ none) : a ≠ x := fun z => s.elim (fun q => n a q z) (fun q => h (z ▸ q))
theorem taken_ne {H : Hp} {F L2 : List Addr} {a : Addr} (s : a ∈ F ∨ H a = none) (n : ∀ b ∈ F, b ∉ L2) (h : ∀ b ∈ L2, H b ≠ none) : a ∉ L2 := fun z => s.elim (fun q => n a q z) (fun q => h a z q)
theorem taken_nl {H : Hp} {F L2 : List Addr} {a : Addr} (s : a ∈ F ∨ H a = none) (n : ∀ b ∈ F, b ∉ L2) (h : ∀ b ∈ L2, H b ≠ none) : ∀ b ∈ L2, b ≠ a := fun b hb z => taken_ne s n h (z ▸ hb)
theorem cat_lenW {α β : Type} {f : α → Dt} {g : β → Dt} {G H : Hp} {L1 L2 : List Addr} {vs ws : List V} {xs : List α} {ys : List β} (a : OwAll G H L1 vs (xs.map f)) (b : OwAll G H L2 ws (ys.map g)) (h : xs.length + ys.length ≤ 1000000) : vs.length + ws.length ≤ sizeLine := by
  rw [a.lenM, b.lenM]
  exact smallE h
theorem app_trees {α : Type} {f : α → Dt} {G H : Hp} {L1 L2 : List Addr} {vs ws : List V} {xs ys : List α} (zs : List α) (e : zs = xs ++ ys) (a : OwAll G H L1 vs (xs.map f)) (b : OwAll G H L2 ws (ys.map f)) (d : ∀ c ∈ L1, c ∉ L2) : OwAll G H (L1 ++ L2) (vs ++ ws) (zs.map f) := by
  rw [e, List.map_append]
  exact OwAll.app b a d
/-- the item of a turn is the part at its index -/
theorem item_at {vs : List V} {i : Nat} {k : Int} {x v : V} (h1 : atI vs k = some v) (hj : vs[i]? = some x) (hk : k = 0 + (i : Int)) : x = v := by
  have hl := get_len hj
  have e : atI vs k = some x := by
    unfold atI ixN
    rw [if_pos (by omega), if_pos (by omega)]
    show vs[k.toNat]? = some x
    rw [show k.toNat = i by omega, hj]
  rw [e] at h1
  exact Option.some.inj h1
theorem RpAll.at_ix {α : Type} [Inhabited α] {f : α → PyData} {G : Hp} {vs : List V} {xs : List α} {k : Int} {v : V} (d : RpAll G vs (xs.map f)) (g : -(xs.length : Int) ≤ k ∧ k < xs.length) (h : atI vs k = some v) : Rp G v (f (itD xs k)) := by
  obtain ⟨v', h1, h3⟩ := RpAll.ixD (k := k) d g
  rw [h] at h1
  cases h1
  exact h3
theorem atI_same {vs : List V} {k : Int} {v u : V} (h1 : atI vs k = some v) (h2 : atI vs k = some u) : v = u := by
  rw [h1] at h2
  exact Option.some.inj h2
theorem setL_g {α : Type} {xs : List α} {k j : Int} {y : α} (g : -(xs.length : Int) ≤ k ∧ k < xs.length) : -((setL xs j y).length : Int) ≤ k ∧ k < (setL xs j y).length := by
  have : (setL xs j y).length = xs.length := by
    unfold setL
    rw [List.length_set]
  rw [this]
  exact g
theorem Ow.atList {α : Type} {f : α → Dt} {G H : Hp} {L1 : List Addr} {b : Addr} {xs : List α} (w : Ow G H L1 (.ref b) (oL f xs)) : ∃ vs Lb, L1 = b :: Lb ∧ H b = some (.lst vs) ∧ OwAll G H Lb vs (xs.map f) ∧ ∀ c ∈ Lb, c ≠ b := by
  obtain ⟨b2, vs, Lb, e, l, h, wb, nb⟩ := Ow.toList w
  cases e
  exact ⟨vs, Lb, l, h, wb, nb⟩
theorem part_at {α : Type} {f : α → PyData} {G H : Hp} {b : Addr} {vs : List V} {xs : List α} (r : Rp G (.ref b) (encL f xs)) (s : Same G H) (h : H b = some (.lst vs)) : G b = some (.lst vs) ∧ RpAll G vs (xs.map f) := by
  obtain ⟨vs2, h2, d⟩ := rp_listAt r
  have z := (s b _ h2).symm.trans h
  cases z
  exact ⟨h2, d⟩
theorem cat_len2 {α β : Type} {f : α → PyData} {g : β → PyData} {G G2 : Hp} {vs ws : List V} {xs : List α} {ys : List β} (a : RpAll G vs (xs.map f)) (b : RpAll G2 ws (ys.map g)) (h : xs.length + ys.length ≤ 1000000) : vs.length + ws.length ≤ sizeLine := by
  rw [a.len, b.len, List.length_map, List.length_map]
  exact smallE h
end Vx
/-! # fourth part: reckoning with functions that may refuse -/
namespace Vx
open PySem PySem.Spec PyProof.Rows L2
section
variable {α β σ ρ τ : Type}
theorem bind_ok (a : α) (f : α → Rx β) : (Rx.ok a).bind f = f a := rfl
theorem bind_er (e : Nat) (f : α → Rx β) : (Rx.er e : Rx α).bind f = .er e := rfl
theorem grd_pos {p : Prop} {dp : Decidable p} {m : Rx α} (h : p) : grd p m = m := if_pos h
theorem bnd_eq (a : α) (f : α → Rx β) : bnd a f = f a := rfl
theorem noEr_ok (a : α) : noEr (.ok a : Rx α) = .ok a := rfl
theorem tryR_ok {cs : List Nat} (a : α) (f : α → Rx β) (g : Nat → Rx β) : tryR (.ok a) cs f g = f a := rfl
theorem tryR_er {cs : List Nat} {e : Nat} (h : e ∈ cs) (f : α → Rx β) (g : Nat → Rx β) : tryR (.er e) cs f g = g e := if_pos h
theorem aft_go (s : σ) (kr : ρ → Rx τ) (k : σ → Rx τ) : (Lp.go s : Lp σ ρ).aft kr k = k s := rfl
theorem aft_rt (r : ρ) (kr : ρ → Rx τ) (k : σ → Rx τ) : (Lp.rt r : Lp σ ρ).aft kr k = kr r := rfl
/-- gives a value of which P holds -/
def Gv (m : Rx α) (P : α → Prop) : Prop := ∃ v, m = .ok v ∧ P v
theorem Gv.ok {a : α} {P : α → Prop} (h : P a) : Gv (.ok a) P := ⟨a, rfl, h⟩
theorem Gv.of_eq {m : Rx α} {a : α} {P : α → Prop} (e : m = .ok a) (h : P a) : Gv m P := ⟨a, e, h⟩
theorem Gv.bind {m : Rx α} {f : α → Rx β} {P : α → Prop} {Q : β → Prop} (h : Gv m P) (k : ∀ v, P v → Gv (f v) Q) : Gv (m.bind f) Q := by
  obtain ⟨v, rfl, p⟩ := h
  exact k v p
theorem Gv.bind_eq {m : Rx α} {f : α → Rx β} {a : α} {Q : β → Prop} (h : m = .ok a) (k : Gv (f a) Q) : Gv (m.bind f) Q := by
  subst h
  exact k
theorem Gv.grd {p : Prop} {dp : Decidable p} {m : Rx α} {Q : α → Prop} (h : p) (k : Gv m Q) : Gv (Vx.grd p m) Q := by
  rw [grd_pos h]
  exact k
theorem Gv.bnd {a : α} {f : α → Rx β} {Q : β → Prop} (k : ∀ x, x = a → Gv (f x) Q) : Gv (Vx.bnd a f) Q := k a rfl
theorem Gv.ite {p : Prop} {dp : Decidable p} {a b : Rx α} {Q : α → Prop} (h1 : p → Gv a Q) (h2 : ¬ p → Gv b Q) : Gv (if p then a else b) Q := by
  split
  · exact h1 ‹_›
  · exact h2 ‹_›
theorem Gv.pos {p : Prop} {dp : Decidable p} {a b : Rx α} {Q : α → Prop} (h : p) (k : Gv a Q) : Gv (if p then a else b) Q := by rwa [if_pos h]
theorem Gv.neg {p : Prop} {dp : Decidable p} {a b : Rx α} {Q : α → Prop} (h : ¬ p) (k : Gv b Q) : Gv (if p then a else b) Q := by rwa [if_neg h]
theorem Gv.imp {m : Rx α} {P Q : α → Prop} (h : Gv m P) (k : ∀ v, P v → Q v) : Gv m Q := by
  obtain ⟨v, e, p⟩ := h
  exact ⟨v, e, k v p⟩
theorem Gv.noEr {m : Rx α} {P : α → Prop} (h : Gv m P) : Gv (Vx.noEr m) P := by
  obtain ⟨v, rfl, p⟩ := h
  exact ⟨v, rfl, p⟩
theorem Gv.tryOk {m : Rx α} {cs : List Nat} {f : α → Rx β} {g : Nat → Rx β} {P : α → Prop} {Q : β → Prop} (h : Gv m P) (k : ∀ v, P v → Gv (f v) Q) : Gv (tryR m cs f g) Q := by
  obtain ⟨v, rfl, p⟩ := h
  exact k v p
theorem Gv.tryEr {m : Rx α} {cs : List Nat} {e : Nat} {f : α → Rx β} {g : Nat → Rx β} {Q : β → Prop} (h : m = .er e) (hm : e ∈ cs) (k : Gv (g e) Q) : Gv (tryR m cs f g) Q := by
  subst h
  rw [tryR_er hm]
  exact k
theorem Gv.get {m : Rx α} {a : α} (h : Gv m (fun v => v = a)) : m = .ok a := by
  obtain ⟨v, e, rfl⟩ := h
  exact e
theorem Gv.eq {m : Rx α} {P : α → Prop} (h : Gv m P) : ∃ v, m = .ok v ∧ P v := h
/-- a loop that keeps P -/
theorem Gv.forS {P : Nat → σ → Prop} {xs : List α} {s : σ} {f : σ → α → Rx σ} (h0 : P 0 s) (hs : ∀ i x s, xs[i]? = some x → P i s → Gv (f s x) (P (i + 1))) : Gv (Vx.forS xs s f) (P xs.length) := by
  induction xs generalizing s P with
  | nil => exact .ok h0
  | cons x r ih =>
    refine Gv.bind (hs 0 x s rfl h0) fun s' p => ?_
    exact ih (P := fun i => P (i + 1)) p fun i y s hy q => hs (i + 1) y s (by simpa using hy) q
theorem Gv.forR {P : Nat → σ → Prop} {xs : List α} {s : σ} {f : σ → α → Rx (Lp σ ρ)} (h0 : P 0 s) (hs : ∀ i x s, xs[i]? = some x → P i s → Gv (f s x) (fun l => ∃ s', l = .go s' ∧ P (i + 1) s')) : Gv (Vx.forR xs s f) (fun l => ∃ s', l = .go s' ∧ P xs.length s') := by
  induction xs generalizing s P with
  | nil => exact .ok ⟨s, rfl, h0⟩
  | cons x r ih =>
    refine Gv.bind (hs 0 x s rfl h0) ?_
    rintro _ ⟨s', rfl, p⟩
    exact ih (P := fun i => P (i + 1)) p fun i y s hy q => hs (i + 1) y s (by simpa using hy) q
/-- a loop that carries nothing -/
theorem forR_unit {xs : List α} {f : Unit → α → Rx (Lp Unit ρ)} (h : ∀ x ∈ xs, f () x = .ok (.go ())) : Vx.forR xs () f = .ok (.go ()) := by
  induction xs with
  | nil => rfl
  | cons x r ih =>
    show (f () x).bind _ = _
    rw [h x List.mem_cons_self]
    exact ih fun y hy => h y (List.mem_cons_of_mem _ hy)
theorem forS_pure {xs : List α} {s : σ} {f : σ → α → Rx σ} {g : σ → α → σ} (h : ∀ s x, x ∈ xs → f s x = .ok (g s x)) : Vx.forS xs s f = .ok (xs.foldl g s) := by
  induction xs generalizing s with
  | nil => rfl
  | cons x r ih =>
    show (f s x).bind _ = _
    rw [h s x List.mem_cons_self]
    exact ih fun s y hy => h s y (List.mem_cons_of_mem _ hy)
theorem mapA_pure {xs : List α} {acc : List β} {f : α → Rx β} {g : α → β} (h : ∀ x ∈ xs, f x = .ok (g x)) (hl : acc.length + xs.length ≤ 1000000) : mapA xs acc f = .ok (acc ++ xs.map g) := by
  induction xs generalizing acc with
  | nil => simp [mapA]
  | cons x r ih =>
    rw [List.length_cons] at hl
    unfold mapA
    rw [grd_pos (by omega), h x List.mem_cons_self, bind_ok, ih (fun y hy => h y (List.mem_cons_of_mem _ hy)) (by rw [List.length_append, List.length_cons, List.length_nil]; omega)]
    simp
theorem mapA_pure0 {xs : List α} {f : α → Rx β} {g : α → β} (h : ∀ x ∈ xs, f x = .ok (g x)) (hl : xs.length ≤ 1000000) : mapA xs [] f = .ok (xs.map g) := by
  rw [mapA_pure h (by simpa using hl)]
  rfl
theorem mapF_pure {xs : List α} {acc : List β} {f : α → Rx (Option β)} {g : α → Option β} (h : ∀ x ∈ xs, f x = .ok (g x)) (hl : acc.length + xs.length ≤ 1000000) : mapF xs acc f = .ok (acc ++ xs.filterMap g) := by
  induction xs generalizing acc with
  | nil => simp [mapF]
  | cons x r ih =>
    rw [List.length_cons] at hl
    unfold mapF
    rw [grd_pos (by omega), h x List.mem_cons_self, bind_ok]
    cases e : g x with
    | none =>
      show mapF r acc f = _
      rw [ih (fun y hy => h y (List.mem_cons_of_mem _ hy)) (by omega), List.filterMap_cons, e]
    | some z =>
      show mapF r (acc ++ [z]) f = _
      rw [ih (fun y hy => h y (List.mem_cons_of_mem _ hy)) (by rw [List.length_append, List.length_cons, List.length_nil]; omega), List.filterMap_cons, e]
      simp
/-- a while that ends: m falls -/
theorem Gv.whileR {P : σ → Prop} {R : σ → Prop} (m : σ → Nat) {f : σ → Rx (Lp σ ρ)} (hs : ∀ s, P s → Gv (f s) (fun l => (∃ s', l = .go s' ∧ P s' ∧ m s' < m s) ∨ ∃ s', l = .bk s' ∧ R s')) : ∀ {n : Nat} {s : σ}, P s → m s < n → Gv (Vx.whileR n s f) (fun l => ∃ s', l = .go s' ∧ R s') := by
  intro n
  induction n with
  | zero => intro s _ h; exact absurd h (Nat.not_lt_zero _)
  | succ n ih =>
    intro s p h
    refine Gv.bind (hs s p) ?_
    rintro _ (⟨s', rfl, p', l⟩ | ⟨s', rfl, r⟩)
    · exact ih p' (by omega)
    · exact .ok ⟨s', rfl, r⟩
end
/-- a loop that may return -/
theorem Gv.forRR {α σ ρ : Type} {P : Nat → σ → Prop} {Q : ρ → Prop} {xs : List α} {s : σ} {f : σ → α → Rx (Lp σ ρ)} (h0 : P 0 s) (hs : ∀ i x s, xs[i]? = some x → P i s → Gv (f s x) (fun l => (∃ s', l = .go s' ∧ P (i + 1) s') ∨ ∃ r, l = .rt r ∧ Q r)) : Gv (Vx.forR xs s f) (fun l => (∃ s', l = .go s' ∧ P xs.length s') ∨ ∃ r, l = .rt r ∧ Q r) := by
  induction xs generalizing s P with
  | nil => exact .ok (.inl ⟨s, rfl, h0⟩)
  | cons x r ih =>
    refine Gv.bind (hs 0 x s rfl h0) ?_
    rintro _ (⟨s', rfl, p⟩ | ⟨r, rfl, q⟩)
    · exact ih (P := fun i => P (i + 1)) p fun i y s hy q => hs (i + 1) y s (by simpa using hy) q
    · exact .ok (.inr ⟨r, rfl, q⟩)
theorem rng_mem {lo x : Int} {n : Nat} (h : x ∈ rng lo n) : lo ≤ x ∧ x < lo + n := by
  unfold rng at h
  obtain ⟨j, hj, rfl⟩ := List.mem_map.mp h
  have := List.mem_range.mp hj
  omega
theorem rng_at {lo x : Int} {n i : Nat} (h : (rng lo n)[i]? = some x) : x = lo + i ∧ i < n := by
  have hl := get_len h
  rw [rng_len] at hl
  rw [rng_get hl] at h
  exact ⟨(Option.some.inj h).symm, hl⟩
end Vx
namespace Vx
open PySem PySem.Spec PyProof.Rows L2
/-! ### the head's facts -/
abbrev Frg : Type := PySem.W.Frag
abbrev FaK : Type := Frg → Bool
abbrev AlK : Type := Bool × List He.FnW × List (Option (List (Option (Str × Int))))
def obsK (fa : List (List FaK)) (fn : List He5.DefA) (ts : List He.Tab) (K : Frg) : AlK :=
  ((fa.all fun l => l.all fun f => f K) && fn.all fun d => d.ok K, fn.map fun d => He5.fnA K (d.at_ K), ts.map fun t => He.dicW K (t.1 K))
def valK (fn : List He5.DefA) (ts : List He.Tab) (w : World) : AlK := (true, fn.map He5.DefA.val, ts.map fun t => some (He.keysIn w.params t.2))
def SaysK (fa : List (List FaK)) (fn : List He5.DefA) (ts : List He.Tab) (w : World) (K : Frg) : Prop := obsK fa fn ts K = valK fn ts w
/-- what the names reach in n steps; what has been met is a number's bits -/
def grow1 : List Addr → Nat → List Addr → Nat × List Addr
  | [], m, nw => (m, nw)
  | a :: r, m, nw => match Nat.beq (Nat.land (Nat.shiftRight m a) 1) 1 with
    | true => grow1 r m nw
    | false => HandSHeadRun.frNat (Nat.lor m (Nat.shiftLeft 1 a)) fun m' => grow1 r m' (a :: nw)
def refsG (g : Addr → Option Obj) (a : Addr) : List Addr := match g a with
  | some o => He.refsD o
  | none => []
def asB (g : Addr → Option Obj) : Nat → Nat → List Addr → List Addr
  | 0, _, fr => fr
  | n + 1, m, fr => match grow1 (fr.flatMap (refsG g)) m [] with
    | (m', nw) => fr ++ asB g n m' nw
def asK (g : Addr → Option Obj) (n : Nat) : List Addr := asB g n (Nat.shiftLeft 1 mainGlobals) [mainGlobals]
def obsKG (n : Nat) (fa : List (List FaK)) (fn : List He5.DefA) (ts : List He.Tab) (g : Addr → Option Obj) : AlK := obsK fa fn ts (He.frG g (asK g n))
def hookK (n : Nat) (fa : List (List FaK)) (fn : List He5.DefA) (ts : List He.Tab) : PySem.W.Hook where
  α := AlK
  obs := fun s => obsKG n fa fn ts s.heap.get?
  val := fun w => valK fn ts w
  says := fun w h => ∃ K : Frg, K.In h ∧ SaysK fa fn ts w K
  of := fun _ _ e => ⟨_, He.frG_in, e⟩
  keeps := fun _ _ _ ⟨K, hK, c⟩ k => ⟨K, PySem.W.Frag.In.keeps hK k, c⟩
theorem obsKG_eq {n : Nat} {fa : List (List FaK)} {fn : List He5.DefA} {ts : List He.Tab} {g : Addr → Option Obj} {s : Shared} (h : ∀ a, g a = s.heap.get? a) : obsKG n fa fn ts g = (hookK n fa fn ts).obs s := by
  have e : g = s.heap.get? := funext h
  rw [e] <;> rfl
section
variable {fa : List (List FaK)} {fn : List He5.DefA} {ts : List He.Tab} {w : World} {K : Frg}
theorem SaysK.fact (c : SaysK fa fn ts w K) (i j : Nat) {l : List FaK} {f : FaK} (hl : fa[i]? = some l := by rfl) (h : l[j]? = some f := by rfl) : f K = true := by
  have c1 := (He.ba (show ((fa.all fun l => l.all fun f => f K) && fn.all fun d => d.ok K) = true from congrArg (fun z : AlK => z.1) c)).1
  have c2 := List.all_eq_true.mp c1 l (List.mem_of_getElem? hl)
  exact List.all_eq_true.mp c2 f (List.mem_of_getElem? h)
theorem SaysK.def_ (c : SaysK fa fn ts w K) (i : Nat) {d : He5.DefA} (h : fn[i]? = some d := by rfl) : ∃ fd, FunD K d.name d.qual d.params d.body d.scope (d.dvs K) (d.kws K) (d.at_ K) fd := by
  have c2 := (He.ba (show ((fa.all fun l => l.all fun f => f K) && fn.all fun d => d.ok K) = true from congrArg (fun z : AlK => z.1) c)).2
  have e : fn.map (fun d => He5.fnA K (d.at_ K)) = fn.map He5.DefA.val := congrArg (fun z : AlK => z.2.1) c
  have e2 : (fn.map fun d => He5.fnA K (d.at_ K))[i]? = (fn.map He5.DefA.val)[i]? := by rw [e]
  rw [List.getElem?_map, List.getElem?_map, h] at e2
  exact He5.DefA.funD (Option.some.inj e2) (List.all_eq_true.mp c2 d (List.mem_of_getElem? h))
theorem SaysK.tab (c : SaysK fa fn ts w K) (i : Nat) {t : He.Tab} (h : ts[i]? = some t := by rfl) : He.dicW K (t.1 K) = some (He.keysIn w.params t.2) := by
  have e : ts.map (fun t => He.dicW K (t.1 K)) = ts.map fun t => some (He.keysIn w.params t.2) := congrArg (fun z : AlK => z.2.2) c
  have e2 : (ts.map fun t => He.dicW K (t.1 K))[i]? = (ts.map fun t => some (He.keysIn w.params t.2))[i]? := by rw [e]
  rw [List.getElem?_map, List.getElem?_map, h] at e2
  exact Option.some.inj e2
end
/-! ### facts -/
/-- a def's keyword default, if it is an object -/
def kdA (f : Frg → Addr) (x : Str) (K : Frg) : Addr := match K.lookup (f K) with
  | some ⟨_, _, .func fd, _⟩ => (match fd.kwdefaults with
    | .ref D => (match PySem.W.nsIn K D x with
      | some (some (.ref a)) => a
      | _ => 0)
    | _ => 0)
  | _ => 0
/-- a property's def -/
def prA (C m : Str) (K : Frg) : Addr := match PySem.W.recIn K (He.ma K (He.ga K C) m) "property" with
  | some (.ref f :: _) => f
  | _ => 0
def prpB (C m : Str) : FaK := fun K => He.eqO (PySem.W.findIn K (.ref (He.ga K C)) m) (some (some (.ref (He.ma K (He.ga K C) m)))) &&
  (He.eqO (PySem.W.specialIn K (.ref (He.ma K (He.ga K C) m)) "__get__") (some (some (.builtin "property.__get__"))) &&
  (decide (PySem.W.takesIn K (.ref (He.ma K (He.ga K C) m)) = some true) && (match PySem.W.recIn K (He.ma K (He.ga K C) m) "property" with
    | some (.ref _ :: _) => true
    | _ => false)))
theorem prpB_ok {K : Frg} {C m : Str} (h : prpB C m K = true) : PySem.W.findIn K (.ref (He.ga K C)) m = some (some (.ref (He.ma K (He.ga K C) m))) ∧ PySem.W.specialIn K (.ref (He.ma K (He.ga K C) m)) "__get__" = some (some (.builtin "property.__get__")) ∧
    PySem.W.takesIn K (.ref (He.ma K (He.ga K C) m)) = some true ∧ ∃ rs, PySem.W.recIn K (He.ma K (He.ga K C) m) "property" = some (.ref (prA C m K) :: rs) := by
  obtain ⟨h1, h⟩ := He.ba h
  obtain ⟨h2, h⟩ := He.ba h
  obtain ⟨h3, h4⟩ := He.ba h
  refine ⟨He.eqO_ok h1, He.eqO_ok h2, of_decide_eq_true h3, ?_⟩
  unfold prA
  split at h4
  · rename_i f r e
    exact ⟨r, by rw [e]⟩
  · cases h4
def isiB (C : Str) : FaK := fun K => He.eqO (PySem.W.findIn K (.ref (He.ga K C)) "__class__") (some (some (.builtin "object.__class__"))) && (He.eqO (PySem.W.specialIn K (.builtin "object.__class__") "__get__") (some (some (.builtin "getset_descriptor.__get__"))) &&
  (decide (PySem.W.takesIn K (.builtin "object.__class__") = some true) && decide (PySem.W.mroIn K (He.ga K C) (.type "object") = some true)))
theorem isiB_ok {K : Frg} {C : Str} (h : isiB C K = true) : IsiC K (He.ga K C) := by
  obtain ⟨h1, h⟩ := He.ba h
  obtain ⟨h2, h⟩ := He.ba h
  obtain ⟨h3, h4⟩ := He.ba h
  exact ⟨He.eqO_ok h1, He.eqO_ok h2, of_decide_eq_true h3, of_decide_eq_true h4⟩
def excCB (C : Str) : FaK := fun K => He.eqO (PySem.W.findIn K (.ref (He.ga K C)) "__getattribute__") (some (some (.builtin "BaseException.__getattribute__"))) && (He.eqO (PySem.W.findIn K (.ref (He.ga K C)) "__getattr__") (some none) &&
  (decide (PySem.W.subIn K (.ref (He.ga K C)) (.type "BaseException") = some true) && (PySem.W.hasDictIn K (He.ga K C) && isiB C K)))
theorem excCB_ok {K : Frg} {C : Str} (h : excCB C K = true) : ExcC K (He.ga K C) := by
  obtain ⟨h1, h⟩ := He.ba h
  obtain ⟨h2, h⟩ := He.ba h
  obtain ⟨h3, h⟩ := He.ba h
  obtain ⟨h4, h⟩ := He.ba h
  obtain ⟨h5, h⟩ := He.ba h
  obtain ⟨h6, h⟩ := He.ba h
  obtain ⟨h7, h8⟩ := He.ba h
  exact ⟨He.eqO_ok h1, He.eqO_ok h2, of_decide_eq_true h3, h4, He.eqO_ok h5, He.eqO_ok h6, of_decide_eq_true h7, of_decide_eq_true h8⟩
def kitFB (D : Str) (c : Frg → Value) (b : Bool) : FaK := fun K => decide (PySem.W.kitOne K (.ref (He.ga K D)) (c K) = some b)
theorem kitFB_ok {K : Frg} {D : Str} {c : Frg → Value} {b : Bool} (h : kitFB D c b K = true) : PySem.W.kitOne K (.ref (He.ga K D)) (c K) = some b := of_decide_eq_true h
/-- a tuple of these -/
def tupK (a : Frg → Addr) (vs : List He.Dv) : FaK := fun K => match K.lookup (a K) with
  | some ⟨.type c, none, .seq its _, _⟩ => decide (c = "tuple") && (decide (its.size ≤ sizeLine) && He.relAll (vs.map (He.Dv.v K)) its.toList)
  | _ => false
theorem tupK_at {K : Frg} {a : Frg → Addr} {vs : List He.Dv} (h : tupK a vs K = true) : ∃ its n sl, K.lookup (a K) = some ⟨.type "tuple", none, .seq its n, sl⟩ ∧ its.size ≤ sizeLine ∧ Vals (vs.map (He.Dv.v K)) its.toList := by
  unfold tupK at h
  cases q : K.lookup (a K) with
  | none =>
    rw [q] at h
    cases h
  | some o =>
    obtain ⟨oc, od, dt, osl⟩ := o
    rw [q] at h
    cases oc with
    | type c =>
      cases od with
      | none =>
        cases dt with
        | seq its n =>
          obtain ⟨h1, h2⟩ := He.ba (show (decide (c = "tuple") && (decide (its.size ≤ sizeLine) && He.relAll (vs.map (He.Dv.v K)) its.toList)) = true from h)
          obtain ⟨h3, h4⟩ := He.ba h2
          refine ⟨its, n, osl, ?_, of_decide_eq_true h3, He.relAll_ok h4⟩
          rw [of_decide_eq_true h1]
        | _ => cases h
      | some d => cases dt <;> cases h
    | _ => cases od <;> cases dt <;> cases h
theorem tupK_ok {K : Frg} {a : Frg → Addr} {vs : List He.Dv} (h : tupK a vs K = true) (H : Hp) : SqT K H (a K) (vs.map (He.Dv.v K)) := by
  obtain ⟨its, n, sl, e, h1, h2⟩ := tupK_at h
  exact .inr ⟨_, its, n, e, rfl, rfl, h1, h2⟩
theorem tupK_cls {K : Frg} {a : Frg → Addr} {vs : List He.Dv} (h : tupK a vs K = true) : ∃ o, K.lookup (a K) = some o ∧ o.cls = .type "tuple" ∧ o.dict = none := by
  obtain ⟨its, n, sl, e, h1, h2⟩ := tupK_at h
  exact ⟨_, e, rfl, rfl⟩
/-- the i-th item of a tuple -/
def itK (a : Frg → Addr) (i : Nat) (K : Frg) : Addr := match K.lookup (a K) with
  | some ⟨_, _, .seq its _, _⟩ => (match its.toList[i]? with
    | some (.ref b) => b
    | _ => 0)
  | _ => 0
/-- the value of a key of text -/
def ikK (a : Frg → Addr) (k : Str) (K : Frg) : Addr := match PySem.W.nsIn K (a K) k with
  | some (some (.ref b)) => b
  | _ => 0
/-! ### dicts of ints -/
def eiB : List (Int × Int) → List DictEntry → Bool
  | [], [] => true
  | (k, v) :: r, ⟨h, .int k2 _, .int v2 _⟩ :: es => decide (h = hashInt k) && (decide (k2 = k) && (decide (v2 = v) && eiB r es))
  | _, _ => false
theorem eiB_ok : ∀ {kvs : List (Int × Int)} {es : List DictEntry}, eiB kvs es = true → EI kvs es
  | [], [], _ => .nil
  | [], _ :: _, h => by cases h
  | _ :: _, [], h => by cases h
  | (k, v) :: r, ⟨h0, kk, vv⟩ :: es, h => by
    cases kk with
    | int k2 t =>
      cases vv with
      | int v2 u =>
        obtain ⟨h1, h⟩ := He.ba (show (decide (h0 = hashInt k) && (decide (k2 = k) && (decide (v2 = v) && eiB r es))) = true from h)
        obtain ⟨h2, h⟩ := He.ba h
        obtain ⟨h3, h⟩ := He.ba h
        rw [of_decide_eq_true h1, of_decide_eq_true h2, of_decide_eq_true h3]
        exact .cons (eiB_ok h)
      | _ => cases h
    | _ => cases vv <;> cases h
def kdiB (a : Frg → Addr) (kvs : List (Int × Int)) : FaK := fun K => match K.lookup (a K) with
  | some ⟨.type c, none, .dict es _, sl⟩ => decide (c = "dict") && (sl.isEmpty && (!(a K == sysModules) && eiB kvs es.toList))
  | _ => false
theorem kdiB_ok {K : Frg} {a : Frg → Addr} {kvs : List (Int × Int)} (h : kdiB a kvs K = true) : KDI K (a K) kvs := by
  unfold kdiB at h
  cases q : K.lookup (a K) with
  | none =>
    rw [q] at h
    cases h
  | some o =>
    obtain ⟨oc, od, dt, osl⟩ := o
    rw [q] at h
    cases oc with
    | type c =>
      cases od with
      | none =>
        cases dt with
        | dict es n =>
          obtain ⟨h1, h2⟩ := He.ba (show (decide (c = "dict") && (osl.isEmpty && (!(a K == sysModules) && eiB kvs es.toList))) = true from h)
          obtain ⟨h3, h4⟩ := He.ba h2
          obtain ⟨h5, h6⟩ := He.ba h4
          refine ⟨es, n, ?_, ?_, eiB_ok h6⟩
          · rw [q, of_decide_eq_true h1, Array.isEmpty_iff.mp h3]
          · cases y : a K == sysModules with
            | false => rfl
            | true =>
              rw [y] at h5
              cases h5
        | _ => cases h
      | some b => cases dt <;> cases h
    | _ => cases od <;> cases dt <;> cases h
/-! ### dicts with text keys: the values -/
def valsL (K : Frg) (vs : List He.Dv) (es : List DictEntry) : Bool := He.relAll (vs.map (He.Dv.v K)) (es.map (·.val))
def dvB (a : Frg → Addr) (vs : List He.Dv) : FaK := fun K => match K.lookup (a K) with
  | some ⟨_, _, .dict es _, _⟩ => valsL K vs es.toList
  | _ => false
theorem dic_of {K : Frg} {P : Params} {a : Frg → Addr} {ks : List Str} {vs : List He.Dv} (h : He.dicW K (a K) = some (He.keysIn P ks)) (hv : dvB a vs K = true) :
    ∃ es n, K.lookup (a K) = some ⟨.type "dict", none, .dict es n, #[]⟩ ∧ es.toList.map He.keyOf = He.keysIn P ks ∧ Vals (vs.map (He.Dv.v K)) (es.toList.map (·.val)) := by
  unfold He.dicW at h
  unfold dvB at hv
  cases q : K.lookup (a K) with
  | none =>
    rw [q] at h
    cases h
  | some o =>
    obtain ⟨oc, od, dt, osl⟩ := o
    rw [q] at h hv
    cases oc with
    | type c =>
      cases od with
      | none =>
        cases dt with
        | dict es n =>
          have h1 : (match decide (c = "dict") && (osl.isEmpty && !(a K == sysModules)) with
            | true => some (es.toList.map He.keyOf)
            | false => none) = some (He.keysIn P ks) := h
          cases z : decide (c = "dict") && (osl.isEmpty && !(a K == sysModules)) with
          | false =>
            rw [z] at h1
            cases h1
          | true =>
            rw [z] at h1
            obtain ⟨z1, z2⟩ := He.ba z
            obtain ⟨z3, z4⟩ := He.ba z2
            refine ⟨es, n, ?_, Option.some.inj h1, He.relAll_ok hv⟩
            rw [of_decide_eq_true z1, Array.isEmpty_iff.mp z3]
        | _ => cases h
      | some b => cases dt <;> cases h
    | _ => cases od <;> cases dt <;> cases h
theorem fnD_ex {K : Frg} {x q : Str} {args : Arguments} {body : List Stmt} {sc : Scope} {kws : List (Str × V)} {f : Addr} {fd : FuncData} (F : FunD K x q args body sc [] kws f fd) : ∃ (kV doc : Value) (pm : Value) (an : Option Addr) (cdv ct : Value), fd = PySem.W.fnOf x q args body sc .none kV doc pm an cdv ct := by
  obtain ⟨oc, od, dV, kV, doc, pm, an, cdv, ct, osl, e, l, c, hd, _⟩ := F.ex
  rcases hd with ⟨_, e2⟩ | ⟨e2, _⟩
  · subst e2
    exact ⟨_, _, _, _, _, _, e⟩
  · exact absurd rfl e2
/-! ### the law -/
theorem walkK {l : PySem.W.OpenLaw} {n k : Nat} {q : Program} {loose : List Str} {XP : (Str → Option Value) → Heap → Prop} {YP : World → Heap → Prop} {d : DefRec} {x : Str} (hn : l.most = some n) (hn2 : n ≤ sizeLine) (hdf : d.params.defaults = []) (room : Room k callerA)
    (F : ∀ (w : World) (mg : Str → Option Value) (fa : Addr) (h : Heap), YP w h → h.Ns mainGlobals mg → mg d.name = some (.ref fa) →
      ∃ (K : Frg) (fd : FuncData), K.In h ∧ (∀ (s : Shared) (u : Value), BindsTo s fd ⟨[u], []⟩ [(x, u)]) ∧ ∀ base : Heap, K.In base → base.Ns mainGlobals mg → FnG l.prog w K mg base CX0 k fa fd [x] (fun vs H Q _ => ∃ (a : Addr) (ns : List Int), vs = [.ref a] ∧ SqL K H a (ns.map V.int) ∧ ns.length ≤ n ∧ ∀ H', Q (.bl true) H')) :
    PySem.W.WalkO q loose XP YP l.row.toRowW d [] (fun f vs => PySem.call f vs) := by
  refine Att.attach_call hn hdf ?_
  intro w s₀ s₁ mg mb fa o pm cd doc a vs ns G Y _ _ _ hmg script whole short gens
  obtain ⟨K, fd, kin, bind, prom⟩ := F w mg fa _ Y G.T.g hmg
  obtain ⟨H, base, seq, kinB, nsB, env, fin⟩ := law_start (P := l.prog) (w := w) kin G.T.g G.T.b G.T.builtins G.T.nolimit gens script whole (Nat.le_trans short hn2)
  refine codeAny_mono ((prom base kinB nsB).run callerA [] s₁ H ⟨[.ref a], []⟩ [.ref a] [.ref a] (fun v _ => v = .bl true) (fun _ _ _ => False) ⟨room, rfl⟩ env (bind s₁ (.ref a)) (.cons rfl .nil) ⟨a, ns, rfl, seq, short, fun _ => rfl⟩) ?_
  intro r s2 out
  cases r with
  | error e => exact out.elim
  | ok flow =>
    cases flow with
    | ret u =>
      obtain ⟨⟨v, rv, z⟩, h1, h2, h3⟩ := fin (fun v => v = .bl true) u s2 out
      subst z
      obtain rfl : u = Value.bool true := rv
      exact ⟨rfl, h1, h2, h3⟩
    | next => exact out.elim
    | brk => exact out.elim
    | cont => exact out.elim
end Vx
namespace Vx
open PySem PySem.Spec PyProof.Rows L2
theorem es_of {P : Params} : ∀ {kvs : List (Str × Int)} {es : List DictEntry}, es.map He.keyOf = He.keysIn P (kvs.map (·.1)) → Vals (kvs.map fun q => V.int q.2) (es.map (·.val)) → ES P kvs es
  | [], [], _, _ => .nil
  | [], _ :: _, h, _ => by cases h
  | _ :: _, [], h, _ => by cases h
  | (k, v) :: r, e :: es, h, hv => by
    have h1 : He.keyOf e :: es.map He.keyOf = some (k, PyData.keyHash P k) :: He.keysIn P (r.map (·.1)) := h
    injection h1 with h2 h3
    obtain ⟨hh, kk, vv⟩ := e
    cases hv with
    | cons r1 r2 =>
      obtain ⟨u, e1⟩ := r1
      have e1 : vv = .int v u := e1
      subst e1
      unfold He.keyOf at h2
      cases kk with
      | str x t =>
        have h4 := Option.some.inj h2
        obtain ⟨h5, h6⟩ := Prod.mk.inj h4
        subst h5
        exact .cons h6 (es_of h3 r2)
      | _ => cases h2
theorem kds_of {K : Frg} {w : World} {a : Frg → Addr} {kvs : List (Str × Int)} (h : He.dicW K (a K) = some (He.keysIn w.params (kvs.map (·.1)))) (hv : dvB a (kvs.map fun q => .int q.2) K = true) : KDS K w (a K) kvs := by
  obtain ⟨es, n, e, k, v⟩ := dic_of h hv
  refine ⟨es, n, e, es_of k ?_⟩
  rw [List.map_map] at v
  exact v
end Vx
namespace Vx
open PySem PySem.Spec PyProof.Rows L2
structure St_Format where
  width : Int
  height : Int
  depth : Int
  chroma : Int
deriving DecidableEq
def F__law_draws_b1 (free_15 : Bool) (found_33 : (List Int)) (rest_34 : Int) (state_35 : Int) (it38 : Int) : Rx ((List Int) × Int × Int) :=
  (if free_15 = true then (if 1 < rest_34 then grd (0 < (it38 : Int)) <| grd ((found_33).length ≤ 1000000) <| bnd ((found_33) ++ [(rest_34 % it38)]) fun y49 => grd (0 < (it38 : Int) ∧ (it38 : Int) < 2 ^ 128) <| bnd ((rest_34 / it38)) fun rest_51 => .ok ((y49), (rest_51), (state_35)) else bnd ((((state_35 * 48271) + 11) % 2147483647)) fun state_52 => bnd ((((state_52 * 69621) + 7) % 2147483647)) fun state_53 => grd (0 < (it38 : Int)) <| grd ((found_33).length ≤ 1000000) <| bnd ((found_33) ++ [((state_53 / 13) % it38)]) fun y62 => .ok ((y62), (rest_34), (state_53))) else bnd ((((state_35 * 48271) + 11) % 2147483647)) fun state_63 => bnd ((((state_63 * 69621) + 7) % 2147483647)) fun state_64 => grd (0 < (it38 : Int)) <| grd ((found_33).length ≤ 1000000) <| bnd ((found_33) ++ [((state_64 / 13) % it38)]) fun y73 => .ok ((y73), (rest_34), (state_64)))

def F__law_draws_r1 (found_79 : (List Int)) (rest_80 : Int) (state_81 : Int) : Rx (List Int) :=
  .ok (found_79)

def F__law_draws (cell' : Int) (limits' : (List Int)) : Rx (List Int) :=
  bnd ((if cell' < 0 then -cell' else cell')) fun rest_10 => bnd ((rest_10 % 2147483647)) fun state_11 => bnd ((decide (cell' < 0) || decide (((10 : Int) ^ Int.toNat 18) ≤ cell'))) fun free_14 => Rx.bind (forS (limits') ((([] : (List Int))), (rest_10), (state_11)) (fun s x => F__law_draws_b1 (free_14) (s.1) (s.2.1) (s.2.2) x)) fun s => F__law_draws_r1  (s.1) (s.2.1) (s.2.2)

def F_Format___init__ (width' : Int) (height' : Int) (depth' : Int) (chroma' : Int) : Rx St_Format :=
  (if 1 ≤ width' then (if width' ≤ 256 then (if 1 ≤ height' then (if height' ≤ 256 then (if 8 ≤ depth' then (if depth' ≤ 12 then (if 0 ≤ chroma' then (if chroma' ≤ 2 then .ok (⟨width', height', depth', chroma'⟩ : St_Format) else .er 1) else .er 1) else .er 1) else .er 1) else .er 1) else .er 1) else .er 1) else .er 1)

def F__law_copy_c2 (it213 : (List Int)) : Rx (List Int) :=
  .ok it213

def F__law_copy_c1 (it163 : (List (List Int))) : Rx (List (List Int)) :=
  Rx.bind (mapA (it163) [] (fun x => noEr (F__law_copy_c2  x))) fun v164 => .ok v164

def F__law_copy (planes' : (List (List (List Int)))) : Rx (List (List (List Int))) :=
  Rx.bind (mapA (planes') [] (fun x => noEr (F__law_copy_c1  x))) fun v118 => .ok (v118)

def F__check_shape_c2 (width_319 : Int) (it363 : (List Int)) : Rx Bool :=
  .ok ((!decide (((((it363) : (List Int)).length : Int) : Int) = width_319)))

def F__check_shape_b1 (it317 : ((List (List Int)) × (Int × Int))) : Rx Unit :=
  (if ((((it317.1) : (List (List Int))).length : Int) : Int) = it317.2.2 then Rx.bind (mapA (it317.1) [] (fun x => noEr (F__check_shape_c2 (it317.2.1) x))) fun v320 => (if (List.any (v320) id) = true then .er 2 else .ok ()) else .er 2)

def F__check_shape_r1  : Rx Unit :=
  .ok (())

def F__check_shape (planes' : (List (List (List Int)))) (sizes' : (List (Int × Int))) : Rx Unit :=
  (if ((((planes') : (List (List (List Int)))).length : Int) : Int) = (((sizes') : (List (Int × Int))).length : Int) then Rx.bind (forS (List.zip (planes') (sizes')) () (fun s x => F__check_shape_b1   x)) fun s => F__check_shape_r1   else .er 2)

def F_Format_planes (self' : St_Format) : Rx Int :=
  .ok ((if (self'.chroma : Int) = 0 then 1 else 3))

def F_Format__plane_size (self' : St_Format) (plane' : Int) (width' : Int) (height' : Int) : Rx (Int × Int) :=
  (if 0 ≤ plane' then Rx.bind (noEr (F_Format_planes (self'))) fun v391 => (if plane' < v391 then (if 0 < plane' then (if (self'.chroma : Int) = 1 then .ok ((((width' + 1) / 2), ((height' + 1) / 2))) else .ok ((width', height'))) else .ok ((width', height'))) else .er 3) else .er 3)

def F_Format_size (self' : St_Format) (plane' : Int) : Rx (Int × Int) :=
  Rx.bind (F_Format__plane_size (self') plane' self'.width self'.height) fun v434 => .ok (v434)

def F__sizes_c1 (fmt_455 : St_Format) (it484 : Int) : Rx (Int × Int) :=
  Rx.bind (F_Format_size (fmt_455) it484) fun v485 => .ok v485

def F__sizes (fmt' : St_Format) : Rx (List (Int × Int)) :=
  Rx.bind (noEr (F_Format_planes (fmt'))) fun v450 => grd (-(2 ^ 62) ≤ (v450 : Int) ∧ (v450 : Int) < 2 ^ 62) <| Rx.bind (mapA (rng (0) (Int.toNat (v450))) [] (fun x => noEr (F__sizes_c1 (fmt') x))) fun v456 => .ok (v456)

def F_Format_top (self' : St_Format) : Rx Int :=
  grd ((0 : Int) ≤ self'.depth ∧ (self'.depth : Int) ≤ 4096 ∧ -(2 ^ 4096) < (1 : Int) ∧ (1 : Int) < 2 ^ 4096) <| .ok (((1 * 2 ^ Int.toNat (self'.depth)) - 1))

def F_check_frame_b2 (fmt_566 : St_Format) (it584 : (List Int)) : Rx Unit :=
  grd ((it584 : List Int) ≠ []) <| (if (minL (it584)) < 0 then .er 2 else grd ((it584 : List Int) ≠ []) <| Rx.bind (noEr (F_Format_top (fmt_566))) fun v588 => (if v588 < (maxL (it584)) then .er 2 else .ok ()))

def F_check_frame_r2  : Rx Unit :=
  .ok ()

def F_check_frame_b1 (fmt_544 : St_Format) (it565 : (List (List Int))) : Rx Unit :=
  Rx.bind (forS (it565) () (fun s x => F_check_frame_b2 (fmt_544)  x)) fun s => F_check_frame_r2  

def F_check_frame_r1  : Rx Unit :=
  .ok (())

def F_check_frame (fmt' : St_Format) (frame' : (List (List (List Int)))) : Rx Unit :=
  Rx.bind (F__sizes (fmt')) fun v525 => Rx.bind (F__check_shape (frame') (v525)) fun v540 => Rx.bind (forS (frame') () (fun s x => F_check_frame_b1 (fmt')  x)) fun s => F_check_frame_r1  

def F__pad_plane_c1 (width_611 : Int) (it655 : (List Int)) : Rx (List Int) :=
  grd (-((it655 : (List Int)).length : Int) ≤ (-1) ∧ (-1) < ((it655 : (List Int)).length : Int)) <| grd (-(2 ^ 63) ≤ ((width_611 - (((it655) : (List Int)).length : Int)) : Int) ∧ ((width_611 - (((it655) : (List Int)).length : Int)) : Int) < 2 ^ 63 ∧ ([(itD (it655) ((-1)))]).length * Int.toNat ((width_611 - (((it655) : (List Int)).length : Int))) ≤ 1000000) <| grd ((it655).length + (repL ([(itD (it655) ((-1)))]) ((width_611 - (((it655) : (List Int)).length : Int)))).length ≤ 1000000) <| .ok ((it655) ++ (repL ([(itD (it655) ((-1)))]) ((width_611 - (((it655) : (List Int)).length : Int)))))

def F__pad_plane_c2 (rows_707 : (List (List Int))) (it740 : Int) : Rx (List Int) :=
  grd (-((rows_707 : (List (List Int))).length : Int) ≤ (-1) ∧ (-1) < ((rows_707 : (List (List Int))).length : Int)) <| .ok ((itD (rows_707) ((-1))))

def F__pad_plane (plane' : (List (List Int))) (size' : (Int × Int)) : Rx (List (List Int)) :=
  Rx.bind (mapA (plane') [] (fun x => noEr (F__pad_plane_c1 (size'.1) x))) fun v612 => grd (-(2 ^ 62) ≤ ((size'.2 - (((v612) : (List (List Int))).length : Int)) : Int) ∧ ((size'.2 - (((v612) : (List (List Int))).length : Int)) : Int) < 2 ^ 62) <| Rx.bind (mapA (rng (0) (Int.toNat ((size'.2 - (((v612) : (List (List Int))).length : Int))))) [] (fun x => noEr (F__pad_plane_c2 (v612) x))) fun v708 => grd ((v612 : (List (List Int))).length + (v708 : (List (List Int))).length ≤ 1000000) <| .ok ((v612) ++ (v708))

def F_Format_blocks (self' : St_Format) : Rx (Int × Int) :=
  .ok (((((self'.width + 8) - 1) / 8), (((self'.height + 8) - 1) / 8)))

def F_Format_coded_size (self' : St_Format) (plane' : Int) : Rx (Int × Int) :=
  Rx.bind (F_Format_blocks (self')) fun v809 => Rx.bind (F_Format__plane_size (self') plane' ((v809.1 * 8)) ((v809.2 * 8))) fun v825 => .ok (v825)

def F__coded_sizes_c1 (fmt_846 : St_Format) (it875 : Int) : Rx (Int × Int) :=
  Rx.bind (F_Format_coded_size (fmt_846) it875) fun v876 => .ok v876

def F__coded_sizes (fmt' : St_Format) : Rx (List (Int × Int)) :=
  Rx.bind (noEr (F_Format_planes (fmt'))) fun v841 => grd (-(2 ^ 62) ≤ (v841 : Int) ∧ (v841 : Int) < 2 ^ 62) <| Rx.bind (mapA (rng (0) (Int.toNat (v841))) [] (fun x => noEr (F__coded_sizes_c1 (fmt') x))) fun v847 => .ok (v847)

def F_pad_frame_c1 (it1004 : ((List (List Int)) × (Int × Int))) : Rx (List (List Int)) :=
  Rx.bind (F__pad_plane (it1004.1) (it1004.2)) fun v1005 => .ok v1005

def F_pad_frame (fmt' : St_Format) (frame' : (List (List (List Int)))) : Rx (List (List (List Int))) :=
  Rx.bind (F_check_frame (fmt') (frame')) fun v915 => Rx.bind (F__coded_sizes (fmt')) fun v919 => Rx.bind (mapA (List.zip (frame') (v919)) [] (fun x => noEr (F_pad_frame_c1  x))) fun v934 => .ok (v934)

def F__crop_plane_c1 (width_1070 : Int) (it1114 : (List Int)) : Rx (List Int) :=
  .ok (cutL (it1114) none (some (width_1070)))

def F__crop_plane (plane' : (List (List Int))) (size' : (Int × Int)) : Rx (List (List Int)) :=
  Rx.bind (mapA (cutL (plane') none (some (size'.2))) [] (fun x => noEr (F__crop_plane_c1 (size'.1) x))) fun v1071 => .ok (v1071)

def F_crop_planes_c1 (it1252 : ((List (List Int)) × (Int × Int))) : Rx (List (List Int)) :=
  Rx.bind (F__crop_plane (it1252.1) (it1252.2)) fun v1253 => .ok v1253

def F_crop_planes (fmt' : St_Format) (planes' : (List (List (List Int)))) : Rx (List (List (List Int))) :=
  Rx.bind (F__coded_sizes (fmt')) fun v1148 => Rx.bind (F__check_shape (planes') (v1148)) fun v1163 => Rx.bind (F__sizes (fmt')) fun v1167 => Rx.bind (mapA (List.zip (planes') (v1167)) [] (fun x => noEr (F_crop_planes_c1  x))) fun v1182 => .ok (v1182)

def F__law_refused (fmt' : St_Format) (planes' : (List (List (List Int)))) : Rx Bool :=
  Rx.bind (F__law_copy (planes')) fun v1298 => tryR (F_crop_planes (fmt') (planes')) [2] (fun v1323 => .ok (false)) (fun _ => .ok (decide ((planes' : (List (List (List Int)))) = v1298)))

def F__law_cell (script' : (List Int)) (k' : Int) : Rx Int :=
  (if k' < (((script') : (List Int)).length : Int) then grd (-((script' : (List Int)).length : Int) ≤ k' ∧ k' < ((script' : (List Int)).length : Int)) <| .ok ((itD (script') (k'))) else .ok (0))

def F__law_size (width' : Int) (height' : Int) (chroma' : Int) (plane' : Int) : Rx (Int × Int) :=
  (if 0 < plane' then (if (chroma' : Int) = 1 then .ok ((((width' + 1) / 2), ((height' + 1) / 2))) else .ok ((width', height'))) else .ok ((width', height')))

def F__law_plane_c3 (top_1466 : Int) (values_1467 : (List Int)) (it1498 : Int) : Rx Int :=
  grd (-((values_1467 : (List Int)).length : Int) ≤ 0 ∧ 0 < ((values_1467 : (List Int)).length : Int)) <| grd (0 < ((top_1466 + 1) : Int)) <| .ok ((((itD (values_1467) (0)) + (7 * it1498)) % (top_1466 + 1)))

def F__law_plane_c5 (top_1535 : Int) (it1579 : Int) : Rx Int :=
  grd ((-(2 ^ 64) < (top_1535 : Int) ∧ (top_1535 : Int) < 2 ^ 64) ∨ (-(2 ^ 64) < ((it1579 % 2) : Int) ∧ ((it1579 % 2) : Int) < 2 ^ 64)) <| .ok ((top_1535 * (it1579 % 2)))

def F__law_plane_c6 (width_1608 : Int) (values_1609 : (List Int)) (it1640 : Int) : Rx (List Int) :=
  grd ((-(2 ^ 64) < (it1640 : Int) ∧ (it1640 : Int) < 2 ^ 64) ∨ (-(2 ^ 64) < (width_1608 : Int) ∧ (width_1608 : Int) < 2 ^ 64)) <| grd ((-(2 ^ 64) < ((it1640 + 1) : Int) ∧ ((it1640 + 1) : Int) < 2 ^ 64) ∨ (-(2 ^ 64) < (width_1608 : Int) ∧ (width_1608 : Int) < 2 ^ 64)) <| .ok (cutL (values_1609) (some ((it1640 * width_1608))) (some (((it1640 + 1) * width_1608))))

def F__law_plane_k4 (width_1527 : Int) (height_1528 : Int) (values_1529 : (List Int)) : Rx (List (List Int)) :=
  grd (-(2 ^ 62) ≤ (height_1528 : Int) ∧ (height_1528 : Int) < 2 ^ 62) <| Rx.bind (mapA (rng (0) (Int.toNat (height_1528))) [] (fun x => noEr (F__law_plane_c6 (width_1527) (values_1529) x))) fun v1610 => .ok (v1610)

def F__law_plane_k2 (width_1454 : Int) (height_1455 : Int) (top_1456 : Int) (kind_1457 : Int) (values_1458 : (List Int)) : Rx (List (List Int)) :=
  Rx.bind (((if (kind_1457 : Int) = 2 then Rx.bind (mapA (values_1458) [] (fun x => noEr (F__law_plane_c5 (top_1456) x))) fun v1536 => .ok (v1536) else .ok (values_1458)) : Rx ((List Int)))) fun s => F__law_plane_k4 (width_1454) (height_1455) s

def F__law_plane_k1 (width_1417 : Int) (height_1418 : Int) (top_1419 : Int) (kind_1420 : Int) (values_1421 : (List Int)) : Rx (List (List Int)) :=
  Rx.bind (((if (kind_1420 : Int) = 1 then grd ((-(2 ^ 64) < (width_1417 : Int) ∧ (width_1417 : Int) < 2 ^ 64) ∨ (-(2 ^ 64) < (height_1418 : Int) ∧ (height_1418 : Int) < 2 ^ 64)) <| grd (-(2 ^ 62) ≤ ((width_1417 * height_1418) : Int) ∧ ((width_1417 * height_1418) : Int) < 2 ^ 62) <| Rx.bind (mapA (rng (0) (Int.toNat ((width_1417 * height_1418)))) [] (fun x => noEr (F__law_plane_c3 (top_1419) (values_1421) x))) fun v1468 => .ok (v1468) else .ok (values_1421)) : Rx ((List Int)))) fun s => F__law_plane_k2 (width_1417) (height_1418) (top_1419) (kind_1420) s

def F__law_plane (cell' : Int) (width' : Int) (height' : Int) (top' : Int) : Rx (List (List Int)) :=
  bnd ((cell' % 4)) fun kind_1387 => grd ((-(2 ^ 64) < (width' : Int) ∧ (width' : Int) < 2 ^ 64) ∨ (-(2 ^ 64) < (height' : Int) ∧ (height' : Int) < 2 ^ 64)) <| grd (-(2 ^ 63) ≤ ((width' * height') : Int) ∧ ((width' * height') : Int) < 2 ^ 63 ∧ ([(top' + 1)]).length * Int.toNat ((width' * height')) ≤ 1000000) <| Rx.bind (F__law_draws ((cell' / 4)) (repL ([(top' + 1)]) ((width' * height')))) fun v1408 => Rx.bind (((if (kind_1387 : Int) = 0 then grd (-((v1408 : (List Int)).length : Int) ≤ 0 ∧ 0 < ((v1408 : (List Int)).length : Int)) <| grd ((-(2 ^ 64) < (width' : Int) ∧ (width' : Int) < 2 ^ 64) ∨ (-(2 ^ 64) < (height' : Int) ∧ (height' : Int) < 2 ^ 64)) <| grd (-(2 ^ 63) ≤ ((width' * height') : Int) ∧ ((width' * height') : Int) < 2 ^ 63 ∧ ([(itD (v1408) (0))]).length * Int.toNat ((width' * height')) ≤ 1000000) <| .ok (repL ([(itD (v1408) (0))]) ((width' * height'))) else .ok (v1408)) : Rx ((List Int)))) fun s => F__law_plane_k1 (width') (height') (top') (kind_1387) s

def F__law_padded_c1 (width_1685 : Int) (it1729 : (List Int)) : Rx (List Int) :=
  grd (-((it1729 : (List Int)).length : Int) ≤ (-1) ∧ (-1) < ((it1729 : (List Int)).length : Int)) <| grd (-(2 ^ 63) ≤ ((width_1685 - (((it1729) : (List Int)).length : Int)) : Int) ∧ ((width_1685 - (((it1729) : (List Int)).length : Int)) : Int) < 2 ^ 63 ∧ ([(itD (it1729) ((-1)))]).length * Int.toNat ((width_1685 - (((it1729) : (List Int)).length : Int))) ≤ 1000000) <| grd ((it1729).length + (repL ([(itD (it1729) ((-1)))]) ((width_1685 - (((it1729) : (List Int)).length : Int)))).length ≤ 1000000) <| .ok ((it1729) ++ (repL ([(itD (it1729) ((-1)))]) ((width_1685 - (((it1729) : (List Int)).length : Int)))))

def F__law_padded_c2 (rows_1794 : (List (List Int))) (it1825 : Int) : Rx (List Int) :=
  grd (-((rows_1794 : (List (List Int))).length : Int) ≤ (-1) ∧ (-1) < ((rows_1794 : (List (List Int))).length : Int)) <| .ok ((itD (rows_1794) ((-1))))

def F__law_padded (plane' : (List (List Int))) (width' : Int) (height' : Int) : Rx (List (List Int)) :=
  Rx.bind (mapA (plane') [] (fun x => noEr (F__law_padded_c1 (width') x))) fun v1686 => grd (-(2 ^ 62) ≤ ((height' - (((v1686) : (List (List Int))).length : Int)) : Int) ∧ ((height' - (((v1686) : (List (List Int))).length : Int)) : Int) < 2 ^ 62) <| Rx.bind (mapA (rng (0) (Int.toNat ((height' - (((v1686) : (List (List Int))).length : Int))))) [] (fun x => noEr (F__law_padded_c2 (v1686) x))) fun v1795 => grd ((v1686 : (List (List Int))).length + (v1795 : (List (List Int))).length ≤ 1000000) <| .ok ((v1686) ++ (v1795))

def F__law_spoilt (planes' : (List (List (List Int)))) (kind' : Int) (plane' : Int) (row' : Int) (sample' : Int) : Rx (List (List (List Int))) :=
  Rx.bind (F__law_copy (planes')) fun v1893 => grd (0 < ((((v1893) : (List (List (List Int)))).length : Int) : Int)) <| bnd ((plane' % (((v1893) : (List (List (List Int)))).length : Int))) fun plane_1913 => grd (-((v1893 : (List (List (List Int)))).length : Int) ≤ plane_1913 ∧ plane_1913 < ((v1893 : (List (List (List Int)))).length : Int)) <| grd (0 < (((((itD (v1893) (plane_1913))) : (List (List Int))).length : Int) : Int)) <| bnd ((row' % ((((itD (v1893) (plane_1913))) : (List (List Int))).length : Int))) fun row_1929 => (if (kind' : Int) = 0 then grd ((cutL (v1893) none (some (plane_1913)) : (List (List (List Int)))).length + (cutL (v1893) (some ((plane_1913 + 1))) none : (List (List (List Int)))).length ≤ 1000000) <| .ok ((cutL (v1893) none (some (plane_1913))) ++ (cutL (v1893) (some ((plane_1913 + 1))) none)) else (if (kind' : Int) = 1 then grd ((v1893 : (List (List (List Int)))).length + ([(itD (v1893) (plane_1913))] : (List (List (List Int)))).length ≤ 1000000) <| .ok ((v1893) ++ ([(itD (v1893) (plane_1913))])) else (if (kind' : Int) = 2 then grd ((cutL ((itD (v1893) (plane_1913))) none (some (row_1929)) : (List (List Int))).length + (cutL ((itD (v1893) (plane_1913))) (some ((row_1929 + 1))) none : (List (List Int))).length ≤ 1000000) <| grd (-((v1893).length : Int) ≤ plane_1913 ∧ plane_1913 < ((v1893).length : Int)) <| bnd (setL (v1893) (plane_1913) ((cutL ((itD (v1893) (plane_1913))) none (some (row_1929))) ++ (cutL ((itD (v1893) (plane_1913))) (some ((row_1929 + 1))) none))) fun y2095 => (if (kind' : Int) = 3 then .bad else (if (kind' : Int) = 4 then .bad else (if (kind' : Int) = 5 then .bad else (if (kind' : Int) = 6 then .bad else .ok (y2095))))) else (if (kind' : Int) = 3 then grd (-(((itD (v1893) (plane_1913)) : (List (List Int))).length : Int) ≤ row_1929 ∧ row_1929 < (((itD (v1893) (plane_1913)) : (List (List Int))).length : Int)) <| grd ((cutL ((itD (v1893) (plane_1913))) none (some (row_1929)) : (List (List Int))).length + ([(itD ((itD (v1893) (plane_1913))) (row_1929))] : (List (List Int))).length ≤ 1000000) <| grd (((cutL ((itD (v1893) (plane_1913))) none (some (row_1929))) ++ ([(itD ((itD (v1893) (plane_1913))) (row_1929))]) : (List (List Int))).length + (cutL ((itD (v1893) (plane_1913))) (some (row_1929)) none : (List (List Int))).length ≤ 1000000) <| grd (-((v1893).length : Int) ≤ plane_1913 ∧ plane_1913 < ((v1893).length : Int)) <| bnd (setL (v1893) (plane_1913) (((cutL ((itD (v1893) (plane_1913))) none (some (row_1929))) ++ ([(itD ((itD (v1893) (plane_1913))) (row_1929))])) ++ (cutL ((itD (v1893) (plane_1913))) (some (row_1929)) none))) fun y2222 => (if (kind' : Int) = 4 then .bad else (if (kind' : Int) = 5 then .bad else (if (kind' : Int) = 6 then .bad else .ok (y2222)))) else (if (kind' : Int) = 4 then grd (-(((itD (v1893) (plane_1913)) : (List (List Int))).length : Int) ≤ row_1929 ∧ row_1929 < (((itD (v1893) (plane_1913)) : (List (List Int))).length : Int)) <| grd (-(((itD (v1893) (plane_1913))).length : Int) ≤ row_1929 ∧ row_1929 < (((itD (v1893) (plane_1913))).length : Int)) <| bnd (setL (v1893) (plane_1913) (setL ((itD (v1893) (plane_1913))) (row_1929) (cutL ((itD ((itD (v1893) (plane_1913))) (row_1929))) (some (1)) none))) fun y2269 => (if (kind' : Int) = 5 then .bad else (if (kind' : Int) = 6 then .bad else .ok (y2269))) else (if (kind' : Int) = 5 then grd (-(((itD (v1893) (plane_1913)) : (List (List Int))).length : Int) ≤ row_1929 ∧ row_1929 < (((itD (v1893) (plane_1913)) : (List (List Int))).length : Int)) <| grd (((itD ((itD (v1893) (plane_1913))) (row_1929))).length + ([sample']).length ≤ 1000000) <| grd (-(((itD (v1893) (plane_1913))).length : Int) ≤ row_1929 ∧ row_1929 < (((itD (v1893) (plane_1913))).length : Int)) <| bnd (setL (v1893) (plane_1913) (setL ((itD (v1893) (plane_1913))) (row_1929) (((itD ((itD (v1893) (plane_1913))) (row_1929))) ++ ([sample'])))) fun y2327 => (if (kind' : Int) = 6 then .bad else .ok (y2327)) else (if (kind' : Int) = 6 then grd (0 < (((((itD (v1893) (plane_1913))) : (List (List Int))).length : Int) : Int)) <| bnd (((row_1929 + 1) % ((((itD (v1893) (plane_1913))) : (List (List Int))).length : Int))) fun other_2338 => grd (-(((itD (v1893) (plane_1913)) : (List (List Int))).length : Int) ≤ other_2338 ∧ other_2338 < (((itD (v1893) (plane_1913)) : (List (List Int))).length : Int)) <| grd (((itD ((itD (v1893) (plane_1913))) (other_2338))).length + ([sample']).length ≤ 1000000) <| grd (-(((itD (v1893) (plane_1913))).length : Int) ≤ other_2338 ∧ other_2338 < (((itD (v1893) (plane_1913))).length : Int)) <| bnd (setL (v1893) (plane_1913) (setL ((itD (v1893) (plane_1913))) (other_2338) (((itD ((itD (v1893) (plane_1913))) (other_2338))) ++ ([sample'])))) fun y2386 => grd (-(((itD (y2386) (plane_1913)) : (List (List Int))).length : Int) ≤ row_1929 ∧ row_1929 < (((itD (y2386) (plane_1913)) : (List (List Int))).length : Int)) <| grd (-(((itD (y2386) (plane_1913))).length : Int) ≤ row_1929 ∧ row_1929 < (((itD (y2386) (plane_1913))).length : Int)) <| bnd (setL (y2386) (plane_1913) (setL ((itD (y2386) (plane_1913))) (row_1929) (cutL ((itD ((itD (y2386) (plane_1913))) (row_1929))) (some (1)) none))) fun y2435 => .ok (y2435) else .ok (v1893))))))))

def F__law_up (n' : Int) : Rx Int :=
  .ok ((((n' + 7) / 8) * 8))

def F_law_c3 (draws_2528 : (List Int)) (width_2529 : Int) (height_2530 : Int) (it2563 : Int) : Rx (Int × Int) :=
  grd (-((draws_2528 : (List Int)).length : Int) ≤ 3 ∧ 3 < ((draws_2528 : (List Int)).length : Int)) <| Rx.bind (F__law_size width_2529 height_2530 ((itD (draws_2528) (3))) it2563) fun v2565 => .ok v2565

def F_law_c4 (draws_2605 : (List Int)) (width_2606 : Int) (height_2607 : Int) (it2642 : Int) : Rx (Int × Int) :=
  Rx.bind (F__law_up width_2606) fun v2643 => Rx.bind (F__law_up height_2607) fun v2644 => grd (-((draws_2605 : (List Int)).length : Int) ≤ 3 ∧ 3 < ((draws_2605 : (List Int)).length : Int)) <| Rx.bind (F__law_size v2643 v2644 ((itD (draws_2605) (3))) it2642) fun v2646 => .ok v2646

def F_law_c6 (script_2700 : (List Int)) (top_2701 : Int) (sizes_2702 : (List (Int × Int))) (it2739 : Int) : Rx (List (List Int)) :=
  Rx.bind (F__law_cell (script_2700) ((1 + it2739))) fun v2740 => grd (-((sizes_2702 : (List (Int × Int))).length : Int) ≤ it2739 ∧ it2739 < ((sizes_2702 : (List (Int × Int))).length : Int)) <| grd (-((sizes_2702 : (List (Int × Int))).length : Int) ≤ it2739 ∧ it2739 < ((sizes_2702 : (List (Int × Int))).length : Int)) <| Rx.bind (F__law_plane v2740 ((itD (sizes_2702) (it2739)).1) ((itD (sizes_2702) (it2739)).2) top_2701) fun v2761 => .ok v2761

def F_law_c7 (script_2820 : (List Int)) (top_2821 : Int) (coded_2822 : (List (Int × Int))) (it2859 : Int) : Rx (List (List Int)) :=
  Rx.bind (F__law_cell (script_2820) ((4 + it2859))) fun v2860 => grd (-((coded_2822 : (List (Int × Int))).length : Int) ≤ it2859 ∧ it2859 < ((coded_2822 : (List (Int × Int))).length : Int)) <| grd (-((coded_2822 : (List (Int × Int))).length : Int) ≤ it2859 ∧ it2859 < ((coded_2822 : (List (Int × Int))).length : Int)) <| Rx.bind (F__law_plane v2860 ((itD (coded_2822) (it2859)).1) ((itD (coded_2822) (it2859)).2) top_2821) fun v2881 => .ok v2881

def F_law_c8 (coded_2923 : (List (Int × Int))) (frame_2924 : (List (List (List Int)))) (it2963 : Int) : Rx (List (List Int)) :=
  grd (-((frame_2924 : (List (List (List Int)))).length : Int) ≤ it2963 ∧ it2963 < ((frame_2924 : (List (List (List Int)))).length : Int)) <| grd (-((coded_2923 : (List (Int × Int))).length : Int) ≤ it2963 ∧ it2963 < ((coded_2923 : (List (Int × Int))).length : Int)) <| grd (-((coded_2923 : (List (Int × Int))).length : Int) ≤ it2963 ∧ it2963 < ((coded_2923 : (List (Int × Int))).length : Int)) <| Rx.bind (F__law_padded ((itD (frame_2924) (it2963))) ((itD (coded_2923) (it2963)).1) ((itD (coded_2923) (it2963)).2)) fun v2992 => .ok v2992

def F_law_b12 (k_3397 : Int) (actual_3452 : (List (List (List Int)))) (longer_3453 : (List (List (List Int)))) (it3456 : Int) : Rx ((List (List (List Int))) × (List (List (List Int)))) :=
  grd (-((actual_3452 : (List (List (List Int)))).length : Int) ≤ k_3397 ∧ k_3397 < ((actual_3452 : (List (List (List Int)))).length : Int)) <| grd (-(((itD (actual_3452) (k_3397)) : (List (List Int))).length : Int) ≤ it3456 ∧ it3456 < (((itD (actual_3452) (k_3397)) : (List (List Int))).length : Int)) <| grd (-(((itD ((itD (actual_3452) (k_3397))) (it3456)) : (List Int)).length : Int) ≤ 0 ∧ 0 < (((itD ((itD (actual_3452) (k_3397))) (it3456)) : (List Int)).length : Int)) <| bnd (setL ((itD (actual_3452) (k_3397))) (it3456) (setL ((itD ((itD (actual_3452) (k_3397))) (it3456))) (0) (((-9) - it3456)))) fun y3489 => bnd (setL (actual_3452) (k_3397) (y3489)) fun y3492 => grd (-((longer_3453 : (List (List (List Int)))).length : Int) ≤ k_3397 ∧ k_3397 < ((longer_3453 : (List (List (List Int)))).length : Int)) <| grd (-(((itD (longer_3453) (k_3397)) : (List (List Int))).length : Int) ≤ it3456 ∧ it3456 < (((itD (longer_3453) (k_3397)) : (List (List Int))).length : Int)) <| grd (-(((itD ((itD (longer_3453) (k_3397))) (it3456)) : (List Int)).length : Int) ≤ 0 ∧ 0 < (((itD ((itD (longer_3453) (k_3397))) (it3456)) : (List Int)).length : Int)) <| bnd (setL ((itD (longer_3453) (k_3397))) (it3456) (setL ((itD ((itD (longer_3453) (k_3397))) (it3456))) (0) (((-9) - it3456)))) fun y3527 => bnd (setL (longer_3453) (k_3397) (y3527)) fun y3530 => .ok ((y3492), (y3530))

def F_law_r12 (k_3398 : Int) (actual_3587 : (List (List (List Int)))) (longer_3588 : (List (List (List Int)))) : Rx ((List (List (List Int))) × (List (List (List Int)))) :=
  grd (-((actual_3587 : (List (List (List Int)))).length : Int) ≤ k_3398 ∧ k_3398 < ((actual_3587 : (List (List (List Int)))).length : Int)) <| grd (-(((itD (actual_3587) (k_3398)) : (List (List Int))).length : Int) ≤ (-1) ∧ (-1) < (((itD (actual_3587) (k_3398)) : (List (List Int))).length : Int)) <| grd (((itD ((itD (actual_3587) (k_3398))) ((-1)))).length ≤ 1000000) <| bnd (setL ((itD (actual_3587) (k_3398))) ((-1)) (((itD ((itD (actual_3587) (k_3398))) ((-1)))) ++ [5])) fun y3621 => bnd (setL (actual_3587) (k_3398) (y3621)) fun y3624 => grd (-((longer_3588 : (List (List (List Int)))).length : Int) ≤ k_3398 ∧ k_3398 < ((longer_3588 : (List (List (List Int)))).length : Int)) <| grd (-(((itD (longer_3588) (k_3398)) : (List (List Int))).length : Int) ≤ (-1) ∧ (-1) < (((itD (longer_3588) (k_3398)) : (List (List Int))).length : Int)) <| grd (((itD ((itD (longer_3588) (k_3398))) ((-1)))).length ≤ 1000000) <| bnd (setL ((itD (longer_3588) (k_3398))) ((-1)) (((itD ((itD (longer_3588) (k_3398))) ((-1)))) ++ [5])) fun y3659 => bnd (setL (longer_3588) (k_3398) (y3659)) fun y3662 => .ok ((y3624), (y3662))

def F_law_b11 (actual_3377 : (List (List (List Int)))) (longer_3378 : (List (List (List Int)))) (it3381 : Int) : Rx ((List (List (List Int))) × (List (List (List Int)))) :=
  grd (-((longer_3378 : (List (List (List Int)))).length : Int) ≤ it3381 ∧ it3381 < ((longer_3378 : (List (List (List Int)))).length : Int)) <| grd (-(2 ^ 62) ≤ (((((itD (longer_3378) (it3381))) : (List (List Int))).length : Int) : Int) ∧ (((((itD (longer_3378) (it3381))) : (List (List Int))).length : Int) : Int) < 2 ^ 62) <| Rx.bind (forS (rng (0) (Int.toNat (((((itD (longer_3378) (it3381))) : (List (List Int))).length : Int)))) ((actual_3377), (longer_3378)) (fun s x => F_law_b12 (it3381) (s.1) (s.2) x)) fun s => F_law_r12 (it3381) (s.1) (s.2)

def F_law_c15 (sizes_3871 : (List (Int × Int))) (k_3872 : Int) (it3967 : (List Int)) : Rx (List Int) :=
  grd (-((sizes_3871 : (List (Int × Int))).length : Int) ≤ k_3872 ∧ k_3872 < ((sizes_3871 : (List (Int × Int))).length : Int)) <| .ok (cutL (it3967) none (some ((itD (sizes_3871) (k_3872)).1)))

def F_law_c14 (sizes_3784 : (List (Int × Int))) (before_3785 : (List (List (List Int)))) (it3842 : Int) : Rx (List (List Int)) :=
  grd (-((before_3785 : (List (List (List Int)))).length : Int) ≤ it3842 ∧ it3842 < ((before_3785 : (List (List (List Int)))).length : Int)) <| grd (-((sizes_3784 : (List (Int × Int))).length : Int) ≤ it3842 ∧ it3842 < ((sizes_3784 : (List (Int × Int))).length : Int)) <| Rx.bind (mapA (cutL ((itD (before_3785) (it3842))) none (some ((itD (sizes_3784) (it3842)).2))) [] (fun x => noEr (F_law_c15 (sizes_3784) (it3842) x))) fun v3873 => .ok v3873

def F_law_b16 (cut_4244 : (List (List (List Int)))) (again_4245 : (List (List (List Int)))) (it4248 : Int) : Rx ((List (List (List Int))) × (List (List (List Int)))) :=
  grd (-((again_4245 : (List (List (List Int)))).length : Int) ≤ it4248 ∧ it4248 < ((again_4245 : (List (List (List Int)))).length : Int)) <| grd (-(((itD (again_4245) (it4248)) : (List (List Int))).length : Int) ≤ 0 ∧ 0 < (((itD (again_4245) (it4248)) : (List (List Int))).length : Int)) <| grd (-(((itD ((itD (again_4245) (it4248))) (0)) : (List Int)).length : Int) ≤ 0 ∧ 0 < (((itD ((itD (again_4245) (it4248))) (0)) : (List Int)).length : Int)) <| bnd (setL ((itD (again_4245) (it4248))) (0) (setL ((itD ((itD (again_4245) (it4248))) (0))) (0) ((-9)))) fun y4281 => bnd (setL (again_4245) (it4248) (y4281)) fun y4284 => grd (-((cut_4244 : (List (List (List Int)))).length : Int) ≤ it4248 ∧ it4248 < ((cut_4244 : (List (List (List Int)))).length : Int)) <| grd (-(((itD (cut_4244) (it4248)) : (List (List Int))).length : Int) ≤ 0 ∧ 0 < (((itD (cut_4244) (it4248)) : (List (List Int))).length : Int)) <| grd (-(((itD ((itD (cut_4244) (it4248))) (0)) : (List Int)).length : Int) ≤ 0 ∧ 0 < (((itD ((itD (cut_4244) (it4248))) (0)) : (List Int)).length : Int)) <| bnd (setL ((itD (cut_4244) (it4248))) (0) (setL ((itD ((itD (cut_4244) (it4248))) (0))) (0) ((-9)))) fun y4319 => bnd (setL (cut_4244) (it4248) (y4319)) fun y4322 => grd (-((y4284 : (List (List (List Int)))).length : Int) ≤ it4248 ∧ it4248 < ((y4284 : (List (List (List Int)))).length : Int)) <| grd (-(((itD (y4284) (it4248)) : (List (List Int))).length : Int) ≤ (-1) ∧ (-1) < (((itD (y4284) (it4248)) : (List (List Int))).length : Int)) <| grd (((itD ((itD (y4284) (it4248))) ((-1)))).length ≤ 1000000) <| bnd (setL ((itD (y4284) (it4248))) ((-1)) (((itD ((itD (y4284) (it4248))) ((-1)))) ++ [it4248])) fun y4357 => bnd (setL (y4284) (it4248) (y4357)) fun y4360 => grd (-((y4322 : (List (List (List Int)))).length : Int) ≤ it4248 ∧ it4248 < ((y4322 : (List (List (List Int)))).length : Int)) <| grd (-(((itD (y4322) (it4248)) : (List (List Int))).length : Int) ≤ (-1) ∧ (-1) < (((itD (y4322) (it4248)) : (List (List Int))).length : Int)) <| grd (((itD ((itD (y4322) (it4248))) ((-1)))).length ≤ 1000000) <| bnd (setL ((itD (y4322) (it4248))) ((-1)) (((itD ((itD (y4322) (it4248))) ((-1)))) ++ [it4248])) fun y4395 => bnd (setL (y4322) (it4248) (y4395)) fun y4398 => .ok ((y4398), (y4360))

def F_law_r16 (draws_4162 : (List Int)) (fmt_4163 : St_Format) (other_4164 : (List (List (List Int)))) (before_4165 : (List (List (List Int)))) (cut_4471 : (List (List (List Int)))) (again_4472 : (List (List (List Int)))) : Rx Bool :=
  (if (again_4472 : (List (List (List Int)))) = cut_4471 then (if (other_4164 : (List (List (List Int)))) = before_4165 then grd (-((draws_4162 : (List Int)).length : Int) ≤ 4 ∧ 4 < ((draws_4162 : (List Int)).length : Int)) <| grd (-((draws_4162 : (List Int)).length : Int) ≤ 5 ∧ 5 < ((draws_4162 : (List Int)).length : Int)) <| grd (-((draws_4162 : (List Int)).length : Int) ≤ 6 ∧ 6 < ((draws_4162 : (List Int)).length : Int)) <| grd (-((draws_4162 : (List Int)).length : Int) ≤ 7 ∧ 7 < ((draws_4162 : (List Int)).length : Int)) <| Rx.bind (F__law_spoilt (other_4164) ((itD (draws_4162) (4))) ((itD (draws_4162) (5))) ((itD (draws_4162) (6))) ((itD (draws_4162) (7)))) fun v4479 => Rx.bind (F__law_refused (fmt_4163) (v4479)) fun v4494 => .ok (v4494) else .ok (false)) else .ok (false))

def F_law_k13 (draws_3771 : (List Int)) (fmt_3772 : St_Format) (count_3773 : Int) (other_3774 : (List (List (List Int)))) (before_3775 : (List (List (List Int)))) (cut_3776 : (List (List (List Int)))) : Rx Bool :=
  Rx.bind (F_crop_planes (fmt_3772) (other_3774)) fun v4137 => (if (v4137 : (List (List (List Int)))) = cut_3776 then (if (other_3774 : (List (List (List Int)))) = before_3775 then grd (-(2 ^ 62) ≤ (count_3773 : Int) ∧ (count_3773 : Int) < 2 ^ 62) <| Rx.bind (forS (rng (0) (Int.toNat (count_3773))) ((cut_3776), (v4137)) (fun s x => F_law_b16  (s.1) (s.2) x)) fun s => F_law_r16 (draws_3771) (fmt_3772) (other_3774) (before_3775) (s.1) (s.2) else .ok (false)) else .ok (false))

def F_law_r11 (draws_3301 : (List Int)) (fmt_3302 : St_Format) (count_3303 : Int) (sizes_3304 : (List (Int × Int))) (frame_3305 : (List (List (List Int)))) (other_3306 : (List (List (List Int)))) (due_3307 : (List (List (List Int)))) (kept_3308 : (List (List (List Int)))) (cropped_3309 : (List (List (List Int)))) (spoilt_3310 : (List (List (List Int)))) (actual_3719 : (List (List (List Int)))) (longer_3720 : (List (List (List Int)))) : Rx Bool :=
  (if (frame_3305 : (List (List (List Int)))) = kept_3308 then (if (cropped_3309 : (List (List (List Int)))) = spoilt_3310 then (if (actual_3719 : (List (List (List Int)))) = longer_3720 then Rx.bind (F_pad_frame (fmt_3302) (frame_3305)) fun v3724 => (if (v3724 : (List (List (List Int)))) = due_3307 then Rx.bind (F__law_copy (other_3306)) fun v3746 => Rx.bind ((grd (-(2 ^ 62) ≤ (count_3303 : Int) ∧ (count_3303 : Int) < 2 ^ 62) <| Rx.bind (mapA (rng (0) (Int.toNat (count_3303))) [] (fun x => noEr (F_law_c14 (sizes_3304) (v3746) x))) fun v3786 => .ok (v3786) : Rx ((List (List (List Int)))))) fun s => F_law_k13 (draws_3301) (fmt_3302) (count_3303) (other_3306) (v3746) s else .ok (false)) else .ok (false)) else .ok (false)) else .ok (false))

def F_law_k10 (draws_3191 : (List Int)) (fmt_3192 : St_Format) (count_3193 : Int) (sizes_3194 : (List (Int × Int))) (frame_3195 : (List (List (List Int)))) (other_3196 : (List (List (List Int)))) (due_3197 : (List (List (List Int)))) (kept_3198 : (List (List (List Int)))) (actual_3199 : (List (List (List Int)))) (cropped_3200 : (List (List (List Int)))) (spoilt_3201 : (List (List (List Int)))) : Rx Bool :=
  Rx.bind (F__law_copy (due_3197)) fun v3281 => grd (-(2 ^ 62) ≤ (count_3193 : Int) ∧ (count_3193 : Int) < 2 ^ 62) <| Rx.bind (forS (rng (0) (Int.toNat (count_3193))) ((actual_3199), (v3281)) (fun s x => F_law_b11  (s.1) (s.2) x)) fun s => F_law_r11 (draws_3191) (fmt_3192) (count_3193) (sizes_3194) (frame_3195) (other_3196) (due_3197) (kept_3198) (cropped_3200) (spoilt_3201) (s.1) (s.2)

def F_law_k9 (draws_3080 : (List Int)) (fmt_3081 : St_Format) (top_3082 : Int) (count_3083 : Int) (sizes_3084 : (List (Int × Int))) (frame_3085 : (List (List (List Int)))) (other_3086 : (List (List (List Int)))) (due_3087 : (List (List (List Int)))) (kept_3088 : (List (List (List Int)))) (actual_3089 : (List (List (List Int)))) : Rx Bool :=
  Rx.bind (F_crop_planes (fmt_3081) (actual_3089)) fun v3112 => (if (v3112 : (List (List (List Int)))) = kept_3088 then (if (actual_3089 : (List (List (List Int)))) = due_3087 then grd (-((v3112 : (List (List (List Int)))).length : Int) ≤ 0 ∧ 0 < ((v3112 : (List (List (List Int)))).length : Int)) <| grd (-(((itD (v3112) (0)) : (List (List Int))).length : Int) ≤ 0 ∧ 0 < (((itD (v3112) (0)) : (List (List Int))).length : Int)) <| grd (-(((itD ((itD (v3112) (0))) (0)) : (List Int)).length : Int) ≤ 0 ∧ 0 < (((itD ((itD (v3112) (0))) (0)) : (List Int)).length : Int)) <| bnd (setL ((itD (v3112) (0))) (0) (setL ((itD ((itD (v3112) (0))) (0))) (0) ((top_3082 + 1)))) fun y3168 => bnd (setL (v3112) (0) (y3168)) fun y3171 => Rx.bind (F__law_copy (kept_3088)) fun v3172 => Rx.bind ((grd (-((v3172 : (List (List (List Int)))).length : Int) ≤ 0 ∧ 0 < ((v3172 : (List (List (List Int)))).length : Int)) <| grd (-(((itD (v3172) (0)) : (List (List Int))).length : Int) ≤ 0 ∧ 0 < (((itD (v3172) (0)) : (List (List Int))).length : Int)) <| grd (-(((itD ((itD (v3172) (0))) (0)) : (List Int)).length : Int) ≤ 0 ∧ 0 < (((itD ((itD (v3172) (0))) (0)) : (List Int)).length : Int)) <| bnd (setL ((itD (v3172) (0))) (0) (setL ((itD ((itD (v3172) (0))) (0))) (0) ((top_3082 + 1)))) fun y3239 => bnd (setL (v3172) (0) (y3239)) fun y3242 => .ok (y3242) : Rx ((List (List (List Int)))))) fun s => F_law_k10 (draws_3080) (fmt_3081) (count_3083) (sizes_3084) (frame_3085) (other_3086) (due_3087) (kept_3088) (actual_3089) (y3171) s else .ok (false)) else .ok (false))

def F_law_k5 (script_2687 : (List Int)) (draws_2688 : (List Int)) (fmt_2689 : St_Format) (top_2690 : Int) (count_2691 : Int) (sizes_2692 : (List (Int × Int))) (coded_2693 : (List (Int × Int))) (frame_2694 : (List (List (List Int)))) : Rx Bool :=
  grd (-(2 ^ 62) ≤ (count_2691 : Int) ∧ (count_2691 : Int) < 2 ^ 62) <| Rx.bind (mapA (rng (0) (Int.toNat (count_2691))) [] (fun x => noEr (F_law_c7 (script_2687) (top_2690) (coded_2693) x))) fun v2823 => grd (-(2 ^ 62) ≤ (count_2691 : Int) ∧ (count_2691 : Int) < 2 ^ 62) <| Rx.bind (mapA (rng (0) (Int.toNat (count_2691))) [] (fun x => noEr (F_law_c8 (coded_2693) (frame_2694) x))) fun v2925 => Rx.bind (F__law_copy (frame_2694)) fun v3035 => Rx.bind (F_pad_frame (fmt_2689) (frame_2694)) fun v3061 => Rx.bind (((if (v3061 : (List (List (List Int)))) = v2925 then (if (frame_2694 : (List (List (List Int)))) = v3035 then .ok (.go ()) else .ok (.rt (false))) else .ok (.rt (false))) : Rx (Lp Unit Bool))) fun l => l.aft Rx.ok fun s => F_law_k9 (draws_2688) (fmt_2689) (top_2690) (count_2691) (sizes_2692) (frame_2694) (v2823) (v2925) (v3035) (v3061) 

def F_law_k2 (script_2509 : (List Int)) (draws_2510 : (List Int)) (width_2511 : Int) (height_2512 : Int) (fmt_2513 : St_Format) (top_2514 : Int) (count_2515 : Int) : Rx Bool :=
  grd (-(2 ^ 62) ≤ (count_2515 : Int) ∧ (count_2515 : Int) < 2 ^ 62) <| Rx.bind (mapA (rng (0) (Int.toNat (count_2515))) [] (fun x => noEr (F_law_c3 (draws_2510) (width_2511) (height_2512) x))) fun v2531 => grd (-(2 ^ 62) ≤ (count_2515 : Int) ∧ (count_2515 : Int) < 2 ^ 62) <| Rx.bind (mapA (rng (0) (Int.toNat (count_2515))) [] (fun x => noEr (F_law_c4 (draws_2510) (width_2511) (height_2512) x))) fun v2608 => Rx.bind ((grd (-(2 ^ 62) ≤ (count_2515 : Int) ∧ (count_2515 : Int) < 2 ^ 62) <| Rx.bind (mapA (rng (0) (Int.toNat (count_2515))) [] (fun x => noEr (F_law_c6 (script_2509) (top_2514) (v2531) x))) fun v2703 => .ok (v2703) : Rx ((List (List (List Int)))))) fun s => F_law_k5 (script_2509) (draws_2510) (fmt_2513) (top_2514) (count_2515) (v2531) (v2608) s

def F_law_k1 (script_2490 : (List Int)) (draws_2491 : (List Int)) (width_2492 : Int) (height_2493 : Int) (fmt_2494 : St_Format) (top_2495 : Int) : Rx Bool :=
  Rx.bind ((grd (-((draws_2491 : (List Int)).length : Int) ≤ 3 ∧ 3 < ((draws_2491 : (List Int)).length : Int)) <| (if 0 < (itD (draws_2491) (3)) then .ok (3) else .ok (1)) : Rx (Int))) fun s => F_law_k2 (script_2490) (draws_2491) (width_2492) (height_2493) (fmt_2494) (top_2495) s

def F_law (script' : (List Int)) : Rx Bool :=
  Rx.bind (F__law_cell (script') 0) fun v2449 => Rx.bind (F__law_draws v2449 ([20, 20, 5, 3, 7, 3, 40, 256])) fun v2459 => grd (-((v2459 : (List Int)).length : Int) ≤ 0 ∧ 0 < ((v2459 : (List Int)).length : Int)) <| bnd ((1 + (itD (v2459) (0)))) fun width_2469 => grd (-((v2459 : (List Int)).length : Int) ≤ 1 ∧ 1 < ((v2459 : (List Int)).length : Int)) <| bnd ((1 + (itD (v2459) (1)))) fun height_2471 => grd (-((v2459 : (List Int)).length : Int) ≤ 2 ∧ 2 < ((v2459 : (List Int)).length : Int)) <| grd (-((v2459 : (List Int)).length : Int) ≤ 3 ∧ 3 < ((v2459 : (List Int)).length : Int)) <| Rx.bind (F_Format___init__ width_2469 height_2471 ((8 + (itD (v2459) (2)))) ((itD (v2459) (3)))) fun v2485 => Rx.bind ((grd (-((v2459 : (List Int)).length : Int) ≤ 2 ∧ 2 < ((v2459 : (List Int)).length : Int)) <| grd ((0 : Int) ≤ (8 + (itD (v2459) (2))) ∧ ((8 + (itD (v2459) (2))) : Int) ≤ 4096 ∧ -(2 ^ 4096) < (1 : Int) ∧ (1 : Int) < 2 ^ 4096) <| bnd (((1 * 2 ^ Int.toNat ((8 + (itD (v2459) (2))))) - 1)) fun top_2502 => .ok (top_2502) : Rx (Int))) fun s => F_law_k1 (script') (v2459) (width_2469) (height_2471) (v2485) s
theorem cell_gv (s : List Int) (k : Int) (h : 0 ≤ k) : Gv (F__law_cell s k) (fun _ => True) := by
  unfold F__law_cell
  exact Gv.ite (fun c => Gv.grd ⟨by omega, c⟩ (.ok trivial)) fun _ => .ok trivial
def Inb : List Int → List Int → Prop
  | [], [] => True
  | v :: vs, l :: ls => 0 ≤ v ∧ v < l ∧ Inb vs ls
  | _, _ => False
theorem Inb.snoc : ∀ {vs ls : List Int} {y l : Int}, Inb vs ls → 0 ≤ y → y < l → Inb (vs ++ [y]) (ls ++ [l])
  | [], [], _, _, _, h0, h1 => ⟨h0, h1, trivial⟩
  | _ :: _, _ :: _, _, _, h, h0, h1 => ⟨h.1, h.2.1, Inb.snoc h.2.2 h0 h1⟩
  | [], _ :: _, _, _, h, _, _ => h.elim
  | _ :: _, [], _, _, h, _, _ => h.elim
theorem Inb.len : ∀ {vs ls : List Int}, Inb vs ls → vs.length = ls.length
  | [], [], _ => rfl
  | _ :: _, _ :: _, h => congrArg Nat.succ (Inb.len h.2.2)
  | [], _ :: _, h => h.elim
  | _ :: _, [], h => h.elim
theorem Inb.cons {v ls : List Int} {l : Int} (h : Inb v (l :: ls)) : ∃ a r, v = a :: r ∧ 0 ≤ a ∧ a < l ∧ Inb r ls := by
  cases v with
  | nil => exact h.elim
  | cons a r => exact ⟨a, r, rfl, h.1, h.2.1, h.2.2⟩
theorem Inb.nil {v : List Int} (h : Inb v []) : v = [] := by
  cases v with
  | nil => rfl
  | cons a r => exact h.elim
theorem draws_gv (cell : Int) (limits : List Int) (hl : ∀ l ∈ limits, 0 < l ∧ l < 18446744073709551616) (hn : limits.length ≤ 1000000) : Gv (F__law_draws cell limits) (fun v => Inb v limits) := by
  unfold F__law_draws
  refine Gv.bnd fun rest _ => Gv.bnd fun state _ => Gv.bnd fun free _ => Gv.bind (Gv.forS (P := fun i s => Inb s.1 (limits.take i)) ?_ fun i x s hx p => ?_) fun s p => .ok ?_
  · rw [List.take_zero]
    trivial
  · have hb0 := hl x (List.mem_of_getElem? hx)
    have hb : 0 < x ∧ x < 2 ^ 128 := ⟨hb0.1, by omega⟩
    have hlen := p.len
    have hi := get_len hx
    rw [List.length_take] at hlen
    have nx : ∀ y : Int, 0 ≤ y → y < x → Inb (s.1 ++ [y]) (limits.take (i + 1)) := fun y h0 h1 => by
      rw [take_succ_get hx]
      exact p.snoc h0 h1
    unfold F__law_draws_b1
    refine Gv.ite (fun _ => Gv.ite (fun _ => Gv.grd hb.1 (Gv.grd (by omega) (Gv.bnd fun y hy => Gv.grd ⟨hb.1, hb.2⟩ (Gv.bnd fun _ _ => .ok ?_)))) fun _ => Gv.bnd fun _ _ => Gv.bnd fun _ _ => Gv.grd hb.1 (Gv.grd (by omega) (Gv.bnd fun y hy => .ok ?_))) fun _ => Gv.bnd fun _ _ => Gv.bnd fun _ _ => Gv.grd hb.1 (Gv.grd (by omega) (Gv.bnd fun y hy => .ok ?_))
    · subst hy
      exact nx _ (Int.emod_nonneg _ (by omega)) (Int.emod_lt_of_pos _ hb.1)
    · subst hy
      exact nx _ (Int.emod_nonneg _ (by omega)) (Int.emod_lt_of_pos _ hb.1)
    · subst hy
      exact nx _ (Int.emod_nonneg _ (by omega)) (Int.emod_lt_of_pos _ hb.1)
  · rw [List.take_length] at p
    exact p
theorem ixg {xs : List Int} {k : Int} {n : Nat} (e : xs.length = n) (h : -(n : Int) ≤ k ∧ k < n) : -(xs.length : Int) ≤ k ∧ k < xs.length := by
  rw [e]
  exact h
theorem itD_lit {xs : List Int} {a k : Int} (n : Nat) (e : k = (n : Int)) (h : xs[n]? = some a) : itD xs k = a := by
  subst e
  have hl := get_len h
  unfold itD atI ixN
  rw [if_pos (by omega), if_pos (by omega)]
  show (xs[n]?).getD default = a
  rw [h]
  rfl
theorem itD_some {α : Type} [Inhabited α] {xs : List α} {k : Int} (h : -(xs.length : Int) ≤ k ∧ k < xs.length) : ∃ j : Nat, xs[j]? = some (itD xs k) := by
  obtain ⟨j, e, hj⟩ := ixN_some h
  refine ⟨j, ?_⟩
  unfold itD atI
  rw [e, List.getElem?_eq_getElem hj]
  show some xs[j] = some ((xs[j]?).getD default)
  rw [List.getElem?_eq_getElem hj] <;> rfl
theorem itD_mem {α : Type} [Inhabited α] {xs : List α} {k : Int} (h : -(xs.length : Int) ≤ k ∧ k < xs.length) : itD xs k ∈ xs := by
  obtain ⟨j, e⟩ := itD_some h
  exact List.mem_of_getElem? e
theorem itD_map {α β : Type} [Inhabited α] [Inhabited β] {xs : List α} {f : α → β} {k : Int} (h : -(xs.length : Int) ≤ k ∧ k < xs.length) : itD (xs.map f) k = f (itD xs k) := by
  obtain ⟨j, e, hj⟩ := ixN_some h
  unfold itD atI
  rw [List.length_map, e]
  show ((xs.map f)[j]?).getD default = f ((xs[j]?).getD default)
  rw [List.getElem?_map, List.getElem?_eq_getElem hj] <;> rfl
theorem itD_nat {α : Type} [Inhabited α] {xs : List α} {k : Int} {j : Nat} (e : k = (j : Int)) (h : j < xs.length) : itD xs k = xs[j] := by
  subst e
  unfold itD atI ixN
  rw [if_pos (by omega), if_pos (by omega)]
  show (xs[j]?).getD default = _
  rw [List.getElem?_eq_getElem h] <;> rfl
theorem setL_mem {α : Type} {xs : List α} {k : Int} {y z : α} (h : z ∈ setL xs k y) : z ∈ xs ∨ z = y := by
  unfold setL at h
  exact List.mem_or_eq_of_mem_set h
theorem setL_len {α : Type} {xs : List α} {k : Int} {y : α} : (setL xs k y).length = xs.length := by
  unfold setL
  rw [List.length_set]
/-! planes, samples between samples -/
/-! ### tables -/
section
variable {α : Type}
theorem rng_map_get {f : Int → α} {a : Int} {n i : Nat} (h : i < n) : ((rng a n).map f)[i]? = some (f (a + i)) := by rw [List.getElem?_map, rng_get h]; rfl
theorem rng_map_ext {f g : Int → α} {a b : Int} {n : Nat} (h : ∀ i : Nat, i < n → f (a + i) = g (b + i)) : (rng a n).map f = (rng b n).map g := by
  apply List.ext_getElem?
  intro i
  by_cases hi : i < n
  · rw [rng_map_get hi, rng_map_get hi, h i hi]
  · rw [List.getElem?_eq_none (by rw [List.length_map, rng_len]; omega), List.getElem?_eq_none (by rw [List.length_map, rng_len]; omega)]
theorem rng_map_itD [Inhabited α] {f : Int → α} {a k : Int} {n : Nat} (h0 : 0 ≤ k) (h1 : k < n) : itD ((rng a n).map f) k = f (a + k) := by
  obtain ⟨j, rfl⟩ : ∃ j : Nat, k = (j : Int) := ⟨k.toNat, by omega⟩
  have hl : j < ((rng a n).map f).length := by rw [List.length_map, rng_len]; omega
  have := rng_map_get (f := f) (a := a) (n := n) (i := j) (by omega)
  unfold itD
  rw [atI_nat this]
  rfl
theorem sIx_at {n d : Nat} {v : Int} (h0 : 0 ≤ v) (h1 : v ≤ n) : HT.sIx n d (some v) = v.toNat := by
  show (if v < 0 then (v + (n : Int)).toNat else min v.toNat n) = v.toNat
  rw [if_neg (by omega)]
  omega
theorem cut_tab {f : Int → α} {a s : Int} {n k : Nat} (h0 : 0 ≤ s) (h1 : s + k ≤ n) : cutL ((rng a n).map f) (some s) (some (s + k)) = (rng (a + s) k).map f := by
  have hl : ((rng a n).map f).length = n := by rw [List.length_map, rng_len]
  unfold cutL
  rw [hl, sIx_at h0 (by omega), sIx_at (by omega) h1]
  apply List.ext_getElem?
  intro i
  by_cases hi : i < k
  · rw [List.getElem?_take_of_lt (by omega), List.getElem?_drop, rng_map_get (by omega), rng_map_get hi]
    congr 2
    omega
  · rw [List.getElem?_eq_none (by rw [List.length_take, List.length_drop, hl]; omega), List.getElem?_eq_none (by rw [List.length_map, rng_len]; omega)]
theorem cut_tab1 {f : Int → α} {a : Int} {n : Nat} : cutL ((rng a (n + 1)).map f) (some 1) none = (rng (a + 1) n).map f := by
  have hl : ((rng a (n + 1)).map f).length = n + 1 := by rw [List.length_map, rng_len]
  unfold cutL
  rw [hl, sIx_at (by decide) (by omega), HT.sIx_none]
  apply List.ext_getElem?
  intro i
  by_cases hi : i < n
  · rw [List.getElem?_take_of_lt (by show i < n + 1 - 1; omega), List.getElem?_drop, rng_map_get (by show 1 + i < n + 1; omega), rng_map_get hi]
    congr 2
    show a + ((1 + i : Nat) : Int) = a + 1 + i
    omega
  · rw [List.getElem?_eq_none (by rw [List.length_take, List.length_drop, hl]; show min (n + 1 - 1) (n + 1 - 1) ≤ i; omega), List.getElem?_eq_none (by rw [List.length_map, rng_len]; omega)]
theorem zip_tab {f : Int → α} {a : Int} {n : Nat} : List.zip ((rng a (n + 1)).map f) (cutL ((rng a (n + 1)).map f) (some 1) none) = (rng a n).map fun c => (f c, f (c + 1)) := by
  rw [cut_tab1]
  apply List.ext_getElem?
  intro i
  by_cases hi : i < n
  · rw [rng_map_get hi]
    refine List.getElem?_zip_eq_some.mpr ⟨rng_map_get (by omega), ?_⟩
    rw [rng_map_get hi]
    congr 2
    omega
  · rw [List.getElem?_eq_none (by rw [List.length_zip, List.length_map, List.length_map, rng_len, rng_len]; omega), List.getElem?_eq_none (by rw [List.length_map, rng_len]; omega)]
theorem zip_tab2 {β : Type} {f : Int → α} {g : Int → β} {a : Int} {n : Nat} : List.zip ((rng a n).map f) ((rng a n).map g) = (rng a n).map fun c => (f c, g c) := by
  apply List.ext_getElem?
  intro i
  by_cases hi : i < n
  · rw [rng_map_get hi]
    exact List.getElem?_zip_eq_some.mpr ⟨rng_map_get hi, rng_map_get hi⟩
  · rw [List.getElem?_eq_none (by rw [List.length_zip, List.length_map, List.length_map, rng_len]; omega), List.getElem?_eq_none (by rw [List.length_map, rng_len]; omega)]
end
theorem itDn {α : Type} [Inhabited α] {xs : List α} {j : Nat} (h : j < xs.length) : itD xs (j : Int) = xs[j] := itD_nat rfl h
/-- a loop that makes a list item by item -/
theorem forS_list {α β : Type} {xs : List α} {f : List β → α → Rx (List β)} {g : α → β} (h : ∀ s x, x ∈ xs → s.length ≤ 1000000 → f s x = .ok (s ++ [g x])) : ∀ acc : List β, acc.length + xs.length ≤ 1000000 → forS xs acc f = .ok (acc ++ xs.map g) := by
  induction xs with
  | nil => intro acc _; simp [forS]
  | cons x r ih =>
    intro acc hl
    rw [List.length_cons] at hl
    show (f acc x).bind _ = _
    rw [h acc x List.mem_cons_self (by omega), bind_ok, ih (fun s y hy => h s y (List.mem_cons_of_mem _ hy)) (acc ++ [g x]) (by rw [List.length_append, List.length_cons, List.length_nil]; omega)]
    simp
/-! ### a plane -/
def Pl (w h top : Int) (M : List (List Int)) : Prop := 1 ≤ w ∧ 1 ≤ h ∧ (M.length : Int) = h ∧ (∀ r ∈ M, (r.length : Int) = w) ∧ ∀ r ∈ M, ∀ x ∈ r, 0 ≤ x ∧ x ≤ top
def cl (v hi : Int) : Int := if hi < (if 0 > v then 0 else v) then hi else (if 0 > v then 0 else v)
theorem cl_in {v hi : Int} (h : 0 ≤ hi) : 0 ≤ cl v hi ∧ cl v hi ≤ hi := by
  unfold cl
  split <;> split <;> omega
theorem cl_id {v hi : Int} (h0 : 0 ≤ v) (h1 : v ≤ hi) : cl v hi = v := by
  unfold cl
  rw [if_neg (show ¬ 0 > v by omega), if_neg (by omega)]
def val (w h : Int) (M : List (List Int)) (x y : Int) : Int := itD (itD M (cl y (h - 1))) (cl x (w - 1))
section
variable {w h top : Int} {M : List (List Int)}
theorem Pl.row (p : Pl w h top M) {y : Int} (h0 : 0 ≤ y) (h1 : y < h) : ((itD M y).length : Int) = w := by
  obtain ⟨_, _, hl, hr, _⟩ := p
  exact hr _ (itD_mem (by rw [hl]; omega))
theorem Pl.val (p : Pl w h top M) (x y : Int) : 0 ≤ val w h M x y ∧ val w h M x y ≤ top := by
  have h1 := cl_in (v := y) (hi := h - 1) (by have := p.2.1; omega)
  have h2 := cl_in (v := x) (hi := w - 1) (by have := p.1; omega)
  have hr := p.row (y := cl y (h - 1)) h1.1 (by omega)
  exact p.2.2.2.2 _ (itD_mem (by rw [p.2.2.1]; omega)) _ (itD_mem (by rw [hr]; omega))
end
/-! the plane that a law draws -/
theorem Inb.allP {l : Int} : ∀ {vs ls : List Int}, Inb vs ls → (∀ y ∈ ls, y = l) → ∀ x ∈ vs, 0 ≤ x ∧ x < l
  | [], [], _, _, x, hx => nomatch hx
  | v :: vs, m :: ls, h, e, x, hx => by
    have em := e m List.mem_cons_self
    subst em
    rcases List.mem_cons.mp hx with rfl | hx
    · exact ⟨h.1, h.2.1⟩
    · exact Inb.allP h.2.2 (fun y hy => e y (List.mem_cons_of_mem _ hy)) x hx
theorem rep_one {v k x : Int} (h : x ∈ repL [v] k) : x = v := by
  unfold repL at h
  obtain ⟨l, hl, hx⟩ := List.mem_flatten.mp h
  rw [(List.mem_replicate.mp hl).2] at hx
  exact List.mem_singleton.mp hx
theorem rep_lenP {v k : Int} (h : 0 ≤ k) : ((repL [v] k).length : Int) = k := by
  unfold repL
  obtain ⟨j, rfl⟩ : ∃ j : Nat, k = (j : Int) := ⟨k.toNat, by omega⟩
  rw [Int.toNat_natCast]
  have : (List.replicate j [v]).flatten.length = j := by
    induction j with
    | zero => rfl
    | succ j ih =>
      rw [List.replicate_succ, List.flatten_cons, List.length_append, ih (by omega)]
      simp
      omega
  rw [this]
theorem one_4096 : -(2 ^ 4096) < (1 : Int) ∧ (1 : Int) < 2 ^ 4096 := by
  have h : (0 : Int) < 2 ^ 4095 := Int.pow_pos (by decide)
  have e : (2 : Int) ^ 4096 = 2 ^ 4095 * 2 := Int.pow_succ 2 4095
  generalize (2 : Int) ^ 4095 = z at h e
  generalize (2 : Int) ^ 4096 = y at e ⊢
  omega
theorem top_b {d : Int} (h0 : 0 ≤ d) (h1 : d < 5) : 255 ≤ 1 * 2 ^ Int.toNat (8 + d) - (1 : Int) ∧ 1 * 2 ^ Int.toNat (8 + d) - (1 : Int) ≤ 4095 := by
  have : d = 0 ∨ d = 1 ∨ d = 2 ∨ d = 3 ∨ d = 4 := by omega
  rcases this with rfl | rfl | rfl | rfl | rfl <;> decide
theorem plane_gv (cell : Int) {w h top : Int} (hw : 1 ≤ w ∧ w ≤ 200) (hh : 1 ≤ h ∧ h ≤ 200) (ht : 0 ≤ top ∧ top ≤ 4095) : Gv (F__law_plane cell w h top) (Pl w h top) := by
  have hn0 : 1 ≤ w * h := by have := Int.mul_le_mul hw.1 hh.1 (by decide) (by omega); simpa using this
  have hn1 : w * h ≤ 40000 := by have := Int.mul_le_mul hw.2 hh.2 (by omega) (by decide); simpa using this
  have D : ∀ (v : List Int), (v.length : Int) = w * h → (∀ x ∈ v, 0 ≤ x ∧ x ≤ top) → Gv (F__law_plane_k4 w h v) (Pl w h top) := by
    intro v hl hb
    unfold F__law_plane_k4
    refine Gv.grd ⟨by omega, by omega⟩ (Gv.bind_eq (mapA_pure0 (g := fun j => cutL v (some (j * w)) (some ((j + 1) * w))) (fun j hj => ?_) (by rw [rng_len]; omega)) (.ok ⟨hw.1, hh.1, by rw [List.length_map, rng_len]; omega, fun r hr => ?_, fun r hr x hx => ?_⟩))
    · unfold F__law_plane_c6
      rw [grd_pos (.inr ⟨by omega, by omega⟩), grd_pos (.inr ⟨by omega, by omega⟩)]
      rfl
    · obtain ⟨j, hj, rfl⟩ := List.mem_map.mp hr
      have hj := rng_mem hj
      have a0 : 0 ≤ j * w := Int.mul_nonneg (by omega) (by omega)
      have a1 : (j + 1) * w = j * w + w := by rw [Int.add_mul, Int.one_mul]
      have a2 : (j + 1) * w ≤ h * w := Int.mul_le_mul_of_nonneg_right (by omega) (by omega)
      rw [Int.mul_comm h w] at a2
      unfold cutL
      rw [sIx_at a0 (by omega), sIx_at (by omega) (by omega), List.length_take, List.length_drop]
      omega
    · obtain ⟨j, hj, rfl⟩ := List.mem_map.mp hr
      unfold cutL at hx
      exact hb x (List.mem_of_mem_drop (List.mem_of_mem_take hx))
  unfold F__law_plane
  refine Gv.bnd fun kind _ => Gv.grd (.inl ⟨by omega, by omega⟩) (Gv.grd ⟨by omega, by omega, by show 1 * _ ≤ _; omega⟩ (Gv.bind (draws_gv _ _ (fun l hl => ?_) ?_) fun v hv => ?_))
  · rw [rep_one hl]; omega
  · have := rep_lenP (v := top + 1) (k := w * h) (by omega)
    omega
  have hvl : (v.length : Int) = w * h := by rw [hv.len]; exact rep_lenP (by omega)
  have hvb : ∀ x ∈ v, 0 ≤ x ∧ x ≤ top := fun x hx => by have := hv.allP (l := top + 1) (fun y hy => rep_one hy) x hx; omega
  refine Gv.bind (P := fun v => (v.length : Int) = w * h ∧ ∀ x ∈ v, 0 ≤ x ∧ x ≤ top) (Gv.ite (fun _ => Gv.grd (by omega) (Gv.grd (.inl ⟨by omega, by omega⟩) (Gv.grd ⟨by omega, by omega, by show 1 * _ ≤ _; omega⟩ (.ok ⟨rep_lenP (by omega), fun x hx => ?_⟩)))) fun _ => .ok ⟨hvl, hvb⟩) fun v1 h1 => ?_
  · rw [rep_one hx]
    exact hvb _ (itD_mem (by omega))
  unfold F__law_plane_k1
  refine Gv.bind (P := fun v => (v.length : Int) = w * h ∧ ∀ x ∈ v, 0 ≤ x ∧ x ≤ top) (Gv.ite (fun _ => Gv.grd (.inl ⟨by omega, by omega⟩) (Gv.grd ⟨by omega, by omega⟩ (Gv.bind_eq (mapA_pure0 (g := fun k => (itD v1 0 + 7 * k) % (top + 1)) (fun k _ => ?_) (by rw [rng_len]; omega)) (.ok ⟨by rw [List.length_map, rng_len]; omega, fun x hx => ?_⟩)))) fun _ => .ok h1) fun v2 h2 => ?_
  · unfold F__law_plane_c3
    rw [grd_pos (by have := h1.1; omega), grd_pos (by omega)]
    rfl
  · obtain ⟨k, _, rfl⟩ := List.mem_map.mp hx
    have a := Int.emod_nonneg (itD v1 0 + 7 * k) (show top + 1 ≠ 0 by omega)
    have b := Int.emod_lt_of_pos (itD v1 0 + 7 * k) (show 0 < top + 1 by omega)
    omega
  unfold F__law_plane_k2
  refine Gv.bind (P := fun v => (v.length : Int) = w * h ∧ ∀ x ∈ v, 0 ≤ x ∧ x ≤ top) (Gv.ite (fun _ => Gv.bind_eq (mapA_pure0 (g := fun k => top * (k % 2)) (fun k _ => ?_) (by have := h2.1; omega)) (.ok ⟨by rw [List.length_map]; exact h2.1, fun x hx => ?_⟩)) fun _ => .ok h2) fun v3 h3 => D v3 h3.1 h3.2
  · unfold F__law_plane_c5
    rw [grd_pos (.inl ⟨by omega, by omega⟩)]
    rfl
  · obtain ⟨k, _, rfl⟩ := List.mem_map.mp hx
    have : k % 2 = 0 ∨ k % 2 = 1 := by omega
    rcases this with e | e <;> rw [e] <;> omega
theorem plane_list {M : List (List Int)} (h : M.length ≤ 1000000) {f : List Int → Rx (List Int)} (hf : ∀ x, f x = .ok x) : mapA M [] f = .ok M := by
  rw [mapA_pure0 (g := id) (fun x _ => hf x) h, List.map_id]
/-! k03 -/
def zp (c a pl : Int) : Int := if 0 < pl ∧ c = 1 then (a + 1) / 2 else a
def up (a : Int) : Int := (a + 7) / 8 * 8
def nn (c : Int) : Nat := if c = 0 then 1 else 3
def zs (c a b : Int) : List (Int × Int) := (rng 0 (nn c)).map fun pl => (zp c a pl, zp c b pl)
theorem nn_in (c : Int) : nn c = 1 ∨ nn c = 3 := by unfold nn; split <;> simp
theorem nn_pos {c pl : Int} (h : 0 < pl) (h2 : pl < nn c) : c ≠ 0 := by
  rintro rfl
  have e : nn 0 = 1 := rfl
  rw [e] at h2
  omega
section
variable {w h d c : Int}
theorem planes_eq : F_Format_planes ⟨w, h, d, c⟩ = .ok (nn c : Int) := by
  unfold F_Format_planes nn
  show Rx.ok (if c = 0 then (1 : Int) else 3) = _
  by_cases q : c = 0
  · rw [if_pos q, if_pos q]
    rfl
  · rw [if_neg q, if_neg q]
    rfl
theorem psize_eq {pl a b : Int} (hp : 0 ≤ pl ∧ pl < nn c) : F_Format__plane_size ⟨w, h, d, c⟩ pl a b = .ok (zp c a pl, zp c b pl) := by
  unfold F_Format__plane_size
  rw [if_pos hp.1, planes_eq, noEr_ok, bind_ok, if_pos hp.2]
  unfold zp
  by_cases z : 0 < pl
  · rw [if_pos z]
    show (if c = 1 then _ else _) = _
    by_cases q : c = 1
    · rw [if_pos q, if_pos ⟨z, q⟩, if_pos ⟨z, q⟩]
    · rw [if_neg q, if_neg (fun x => q x.2), if_neg (fun x => q x.2)]
  · rw [if_neg z, if_neg (fun x => z x.1), if_neg (fun x => z x.1)]
theorem lsize_eq (a b pl : Int) : F__law_size a b c pl = .ok (zp c a pl, zp c b pl) := by
  unfold F__law_size zp
  by_cases z : 0 < pl
  · rw [if_pos z]
    by_cases q : c = 1
    · rw [if_pos q, if_pos ⟨z, q⟩, if_pos ⟨z, q⟩]
    · rw [if_neg q, if_neg (fun x => q x.2), if_neg (fun x => q x.2)]
  · rw [if_neg z, if_neg (fun x => z x.1), if_neg (fun x => z x.1)]
theorem sizes_eq : F__sizes ⟨w, h, d, c⟩ = .ok (zs c w h) := by
  have n0 := nn_in c
  refine Gv.get ?_
  unfold F__sizes
  rw [planes_eq]
  refine Gv.bind_eq rfl (Gv.grd ⟨by omega, by omega⟩ ?_)
  rw [Int.toNat_natCast]
  refine Gv.bind_eq (mapA_pure0 (g := fun pl => (zp c w pl, zp c h pl)) (fun pl hp => ?_) (by rw [rng_len]; omega)) (.ok rfl)
  have := rng_mem hp
  unfold F__sizes_c1 F_Format_size
  show noEr (Rx.bind (Rx.bind (F_Format__plane_size ⟨w, h, d, c⟩ pl w h) _) _) = _
  rw [psize_eq ⟨this.1, by omega⟩]
  rfl
theorem coded_eq : F__coded_sizes ⟨w, h, d, c⟩ = .ok (zs c (up w) (up h)) := by
  have n0 := nn_in c
  refine Gv.get ?_
  unfold F__coded_sizes
  rw [planes_eq]
  refine Gv.bind_eq rfl (Gv.grd ⟨by omega, by omega⟩ ?_)
  rw [Int.toNat_natCast]
  refine Gv.bind_eq (mapA_pure0 (g := fun pl => (zp c (up w) pl, zp c (up h) pl)) (fun pl hp => ?_) (by rw [rng_len]; omega)) (.ok rfl)
  have := rng_mem hp
  unfold F__coded_sizes_c1 F_Format_coded_size F_Format_blocks
  show noEr (Rx.bind (Rx.bind (F_Format__plane_size ⟨w, h, d, c⟩ pl ((w + 8 - 1) / 8 * 8) ((h + 8 - 1) / 8 * 8)) _) _) = _
  rw [psize_eq ⟨this.1, by omega⟩, show w + 8 - 1 = w + 7 by omega, show h + 8 - 1 = h + 7 by omega]
  rfl
end
/-! ### shapes -/
theorem unit_ok {α : Type} {xs : List α} {f : Unit → α → Rx Unit} (h : ∀ x ∈ xs, f () x = .ok ()) : forS xs () f = .ok () := by
  induction xs with
  | nil => rfl
  | cons x r ih =>
    show (f () x).bind _ = _
    rw [h x List.mem_cons_self, bind_ok]
    exact ih fun y hy => h y (List.mem_cons_of_mem _ hy)
theorem unit_er {α : Type} {e : Nat} {xs : List α} {f : Unit → α → Rx Unit} (h : ∀ x ∈ xs, f () x = .ok () ∨ f () x = .er e) (h2 : ∃ x ∈ xs, f () x = .er e) : forS xs () f = .er e := by
  induction xs with
  | nil => obtain ⟨x, hx, _⟩ := h2; cases hx
  | cons x r ih =>
    show (f () x).bind _ = _
    rcases h x List.mem_cons_self with q | q
    · rw [q, bind_ok]
      refine ih (fun y hy => h y (List.mem_cons_of_mem _ hy)) ?_
      obtain ⟨y, hy, hz⟩ := h2
      rcases List.mem_cons.mp hy with rfl | hy
      · rw [q] at hz; cases hz
      · exact ⟨y, hy, hz⟩
    · rw [q]; rfl
/-- the shape of a plane -/
def Sh (x y : Int) (M : List (List Int)) : Prop := (M.length : Int) = y ∧ ∀ r ∈ M, (r.length : Int) = x
theorem any_eq {M : List (List Int)} {x : Int} (hl : M.length ≤ 1000000) : mapA M [] (fun r => noEr (F__check_shape_c2 x r)) = .ok (M.map fun r => !decide ((r.length : Int) = x)) :=
  mapA_pure0 (g := fun r : List Int => !decide ((r.length : Int) = x)) (fun r _ => rfl) hl
theorem b1_ok {M : List (List Int)} {x y : Int} (h : Sh x y M) (hl : M.length ≤ 1000000) : F__check_shape_b1 (M, (x, y)) = .ok () := by
  unfold F__check_shape_b1
  show (if (M.length : Int) = y then Rx.bind (mapA M [] (fun r => noEr (F__check_shape_c2 x r))) _ else _) = _
  rw [if_pos h.1, any_eq hl, bind_ok, if_neg]
  intro q
  obtain ⟨b, hb, e⟩ := List.any_eq_true.mp q
  obtain ⟨r, hr, rfl⟩ := List.mem_map.mp hb
  have := h.2 r hr
  simp [this] at e
theorem b1_er {M : List (List Int)} {x y : Int} (h : (M.length : Int) ≠ y ∨ ∃ r ∈ M, (r.length : Int) ≠ x) (hl : M.length ≤ 1000000) : F__check_shape_b1 (M, (x, y)) = .er 2 := by
  unfold F__check_shape_b1
  show (if (M.length : Int) = y then Rx.bind (mapA M [] (fun r => noEr (F__check_shape_c2 x r))) _ else _) = _
  by_cases q : (M.length : Int) = y
  · rw [if_pos q, any_eq hl, bind_ok, if_pos]
    rcases h with h | ⟨r, hr, e⟩
    · exact absurd q h
    · exact List.any_eq_true.mpr ⟨_, List.mem_map.mpr ⟨r, hr, rfl⟩, by simp [e]⟩
  · rw [if_neg q]
theorem list_tab {α : Type} [Inhabited α] {R : List α} {n : Nat} (h : R.length = n) : R = (rng 0 n).map fun k => itD R k := by
  apply List.ext_getElem?
  intro k
  by_cases q : k < n
  · rw [rng_map_get q, List.getElem?_eq_getElem (by omega)]
    congr 1
    rw [show (0 : Int) + (k : Int) = (k : Int) by omega, itDn (by omega)]
  · rw [List.getElem?_eq_none (by omega), List.getElem?_eq_none (by rw [List.length_map, rng_len]; omega)]
/-- planes of a shape, with samples up to t -/
structure Fr (c a b t : Int) (R : List (List (List Int))) : Prop where
  len : R.length = nn c
  pl : ∀ k : Int, 0 ≤ k → k < nn c → Pl (zp c a k) (zp c b k) t (itD R k)
theorem zip_zs {c a b : Int} {R : List (List (List Int))} (h : R.length = nn c) : List.zip R (zs c a b) = (rng 0 (nn c)).map fun k => (itD R k, (zp c a k, zp c b k)) := by
  have e := list_tab h
  unfold zs
  rw [show List.zip R ((rng 0 (nn c)).map fun pl => (zp c a pl, zp c b pl)) = List.zip ((rng 0 (nn c)).map fun k => itD R k) ((rng 0 (nn c)).map fun pl => (zp c a pl, zp c b pl)) from by rw [← e], zip_tab2]
theorem zs_len {c a b : Int} : (zs c a b).length = nn c := by unfold zs; rw [List.length_map, rng_len]
theorem shape_ok {c a b : Int} {R : List (List (List Int))} (hl : R.length = nn c) (h : ∀ k : Int, 0 ≤ k → k < nn c → Sh (zp c a k) (zp c b k) (itD R k) ∧ (itD R k).length ≤ 1000000) : F__check_shape R (zs c a b) = .ok () := by
  unfold F__check_shape
  rw [zs_len, hl, if_pos rfl, zip_zs hl, unit_ok (fun x hx => ?_)]
  · rfl
  obtain ⟨k, hk, rfl⟩ := List.mem_map.mp hx
  have := rng_mem hk
  obtain ⟨s, l⟩ := h k this.1 (by omega)
  exact b1_ok s l
theorem shape_er0 {c a b : Int} {R : List (List (List Int))} (hl : R.length ≠ nn c) : F__check_shape R (zs c a b) = .er 2 := by
  unfold F__check_shape
  rw [zs_len, if_neg (by omega)]
theorem shape_er {c a b : Int} {R : List (List (List Int))} (hl : R.length = nn c) (h : ∀ k : Int, 0 ≤ k → k < nn c → (itD R k).length ≤ 1000000) {k : Int} (k0 : 0 ≤ k) (k1 : k < nn c) (hb : ((itD R k).length : Int) ≠ zp c b k ∨ ∃ r ∈ itD R k, (r.length : Int) ≠ zp c a k) : F__check_shape R (zs c a b) = .er 2 := by
  have hm : k ∈ rng 0 (nn c) := by
    unfold rng
    exact List.mem_map.mpr ⟨k.toNat, List.mem_range.mpr (by omega), by omega⟩
  have er : forS ((rng 0 (nn c)).map fun k => (itD R k, (zp c a k, zp c b k))) () (fun _ x => F__check_shape_b1 x) = .er 2 := by
    refine unit_er (fun x hx => ?_) ⟨_, List.mem_map.mpr ⟨k, hm, rfl⟩, b1_er hb (h k k0 k1)⟩
    obtain ⟨j, hj, rfl⟩ := List.mem_map.mp hx
    have q := rng_mem hj
    have l := h j q.1 (by omega)
    by_cases z : Sh (zp c a j) (zp c b j) (itD R j)
    · exact .inl (b1_ok z l)
    · refine .inr (b1_er ?_ l)
      by_cases y : ((itD R j).length : Int) = zp c b j
      · exact .inr (Classical.byContradiction fun n => z ⟨y, fun r hr => Classical.byContradiction fun e => n ⟨r, hr, e⟩⟩)
      · exact .inl y
  unfold F__check_shape
  rw [zs_len, hl, if_pos rfl, zip_zs hl, er]
  rfl
/-! k03 two -/
/-! ### frames padded and cropped -/
def tp (d : Int) : Int := 1 * 2 ^ Int.toNat d - 1
def padP (M : List (List Int)) (A B : Int) : List (List Int) := (M.map fun r => r ++ repL [itD r (-1)] (A - r.length)) ++ (rng 0 (Int.toNat (B - M.length))).map fun _ => itD (M.map fun r => r ++ repL [itD r (-1)] (A - r.length)) (-1)
def cropP (M : List (List Int)) (A B : Int) : List (List Int) := (cutL M none (some B)).map fun r => cutL r none (some A)
section
variable {x y t A B : Int} {M : List (List Int)}
theorem rep1_len (v k : Int) : (repL [v] k).length = k.toNat := by rw [repL_len]; simp
theorem pad_eq (p : Pl x y t M) (hx : x ≤ A ∧ A ≤ 1000) (hy : y ≤ B ∧ B ≤ 1000) : F__pad_plane M (A, B) = .ok (padP M A B) := by
  obtain ⟨x1, y1, hM, hr, _⟩ := p
  refine Gv.get ?_
  unfold F__pad_plane
  refine Gv.bind_eq (mapA_pure0 (g := fun r : List Int => r ++ repL [itD r (-1)] (A - r.length)) (fun r hrm => ?_) (by omega)) ?_
  · have l := hr r hrm
    refine Gv.get (Gv.noEr ?_)
    unfold F__pad_plane_c1
    exact Gv.grd ⟨by omega, by omega⟩ (Gv.grd ⟨by show -(2 ^ 63) ≤ A - (r.length : Int); omega, by show A - (r.length : Int) < 2 ^ 63; omega, by show 1 * _ ≤ _; omega⟩ (Gv.grd (by rw [rep1_len]; omega) (.ok rfl)))
  have ml : ((M.map fun r => r ++ repL [itD r (-1)] (A - r.length)).length : Int) = y := by rw [List.length_map]; exact hM
  rw [ml]
  refine Gv.grd ⟨by show -(2 ^ 62) ≤ B - y; omega, by show B - y < 2 ^ 62; omega⟩ (Gv.bind_eq (mapA_pure0 (g := fun _ => itD (M.map fun r => r ++ repL [itD r (-1)] (A - r.length)) (-1)) (fun k _ => ?_) (by rw [rng_len]; show (B - y).toNat ≤ _; omega)) (Gv.grd (by rw [List.length_map, List.length_map, rng_len]; show M.length + (B - y).toNat ≤ _; omega) (.ok ?_)))
  · refine Gv.get (Gv.noEr ?_)
    unfold F__pad_plane_c2
    exact Gv.grd (by rw [ml]; omega) (.ok rfl)
  · unfold padP
    rw [hM]
theorem lawpad_eq (p : Pl x y t M) (hx : x ≤ A ∧ A ≤ 1000) (hy : y ≤ B ∧ B ≤ 1000) : F__law_padded M A B = .ok (padP M A B) := by
  obtain ⟨x1, y1, hM, hr, _⟩ := p
  refine Gv.get ?_
  unfold F__law_padded
  refine Gv.bind_eq (mapA_pure0 (g := fun r : List Int => r ++ repL [itD r (-1)] (A - r.length)) (fun r hrm => ?_) (by omega)) ?_
  · have l := hr r hrm
    refine Gv.get (Gv.noEr ?_)
    unfold F__law_padded_c1
    exact Gv.grd ⟨by omega, by omega⟩ (Gv.grd ⟨by omega, by omega, by show 1 * _ ≤ _; omega⟩ (Gv.grd (by rw [rep1_len]; omega) (.ok rfl)))
  have ml : ((M.map fun r => r ++ repL [itD r (-1)] (A - r.length)).length : Int) = y := by rw [List.length_map]; exact hM
  rw [ml]
  refine Gv.grd ⟨by omega, by omega⟩ (Gv.bind_eq (mapA_pure0 (g := fun _ => itD (M.map fun r => r ++ repL [itD r (-1)] (A - r.length)) (-1)) (fun k _ => ?_) (by rw [rng_len]; omega)) (Gv.grd (by rw [List.length_map, List.length_map, rng_len]; omega) (.ok ?_)))
  · refine Gv.get (Gv.noEr ?_)
    unfold F__law_padded_c2
    exact Gv.grd (by rw [ml]; omega) (.ok rfl)
  · unfold padP
    rw [hM]
theorem pad_pl (p : Pl x y t M) (hx : x ≤ A) (hy : y ≤ B) : Pl A B t (padP M A B) := by
  obtain ⟨x1, y1, hM, hr, hv⟩ := p
  have rowl : ∀ r ∈ M.map (fun r => r ++ repL [itD r (-1)] (A - r.length)), (r.length : Int) = A ∧ ∀ z ∈ r, 0 ≤ z ∧ z ≤ t := fun r h => by
    obtain ⟨q, hq, rfl⟩ := List.mem_map.mp h
    have l := hr q hq
    refine ⟨by rw [List.length_append, rep1_len]; omega, fun z hz => ?_⟩
    rcases List.mem_append.mp hz with hz | hz
    · exact hv q hq z hz
    · rw [rep_one hz]
      exact hv q hq _ (itD_mem (by omega))
  have ml : ((M.map fun r => r ++ repL [itD r (-1)] (A - r.length)).length : Int) = y := by rw [List.length_map]; exact hM
  have last : itD (M.map fun r => r ++ repL [itD r (-1)] (A - r.length)) (-1) ∈ M.map fun r => r ++ repL [itD r (-1)] (A - r.length) := itD_mem (by rw [ml]; omega)
  have mem : ∀ r ∈ padP M A B, r ∈ M.map fun r => r ++ repL [itD r (-1)] (A - r.length) := fun r h => by
    unfold padP at h
    rcases List.mem_append.mp h with h | h
    · exact h
    · obtain ⟨_, _, rfl⟩ := List.mem_map.mp h
      exact last
  exact ⟨by omega, by omega, by unfold padP; rw [List.length_append, List.length_map, List.length_map, rng_len]; omega, fun r h => (rowl r (mem r h)).1, fun r h => (rowl r (mem r h)).2⟩
theorem cut_take {α : Type} {xs : List α} {k : Int} (h0 : 0 ≤ k) (h1 : k ≤ xs.length) : cutL xs none (some k) = xs.take k.toNat := by
  unfold cutL
  rw [sIx_at h0 h1]
  simp [HT.sIx]
theorem crop_eq (hl : M.length ≤ 1000000) : F__crop_plane M (A, B) = .ok (cropP M A B) := by
  unfold F__crop_plane
  show Rx.bind (mapA (cutL M none (some B)) [] (fun r => noEr (F__crop_plane_c1 A r))) _ = _
  rw [mapA_pure0 (f := fun r => noEr (F__crop_plane_c1 A r)) (g := fun r => cutL r none (some A)) (fun r _ => rfl) (by have := cutL_len M none (some B); omega)]
  rfl
theorem crop_pad (p : Pl x y t M) (hx : x ≤ A) (hy : y ≤ B) : cropP (padP M A B) x y = M := by
  have pp := pad_pl p hx hy
  obtain ⟨x1, y1, hM, hr, hv⟩ := p
  unfold cropP
  rw [cut_take (by omega) (by rw [pp.2.2.1]; omega)]
  unfold padP
  rw [show y.toNat = M.length by omega, List.take_left' (by rw [List.length_map]), List.map_map]
  conv => rhs; rw [← List.map_id M]
  refine List.map_congr_left fun r h => ?_
  have l := hr r h
  show cutL (r ++ repL [itD r (-1)] (A - r.length)) none (some x) = r
  rw [cut_take (by omega) (by rw [List.length_append]; omega), show x.toNat = r.length by omega, List.take_left' rfl]
theorem crop_pl (p : Pl A B t M) (hx : 1 ≤ x ∧ x ≤ A) (hy : 1 ≤ y ∧ y ≤ B) : Pl x y t (cropP M x y) := by
  obtain ⟨x1, y1, hM, hr, hv⟩ := p
  unfold cropP
  rw [cut_take (by omega) (by omega)]
  refine ⟨hx.1, hy.1, by rw [List.length_map, List.length_take]; omega, fun r h => ?_, fun r h z hz => ?_⟩
  · obtain ⟨q, hq, rfl⟩ := List.mem_map.mp h
    have l := hr q (List.mem_of_mem_take hq)
    rw [cut_take (by omega) (by omega), List.length_take]
    omega
  · obtain ⟨q, hq, rfl⟩ := List.mem_map.mp h
    have l := hr q (List.mem_of_mem_take hq)
    rw [cut_take (by omega) (by omega)] at hz
    exact hv q (List.mem_of_mem_take hq) z (List.mem_of_mem_take hz)
end
/-! k03 three -/
theorem up_in {a : Int} (h : 1 ≤ a ∧ a ≤ 20) : a ≤ up a ∧ 8 ≤ up a ∧ up a ≤ 24 := by unfold up; omega
theorem zp_in {c a pl l u : Int} (h : l ≤ a ∧ a ≤ u) (h1 : 1 ≤ l) : (l + 1) / 2 ≤ zp c a pl ∧ zp c a pl ≤ u := by unfold zp; split <;> omega
theorem zp_le {c a b pl : Int} (h : a ≤ b) : zp c a pl ≤ zp c b pl := by unfold zp; split <;> omega
theorem tp_in {d : Int} (h : 8 ≤ d ∧ d ≤ 12) : 255 ≤ tp d ∧ tp d ≤ 4095 := by
  have := top_b (d := d - 8) (by omega) (by omega)
  rw [show 8 + (d - 8) = d by omega] at this
  exact this
section
variable {w h d c t : Int} {R : List (List (List Int))}
theorem fr_sh {a b : Int} (f : Fr c a b t R) (hb : b ≤ 1000) (k : Int) (k0 : 0 ≤ k) (k1 : k < nn c) : Sh (zp c a k) (zp c b k) (itD R k) ∧ (itD R k).length ≤ 1000000 := by
  have p := f.pl k k0 k1
  have z : zp c b k ≤ b ∨ b ≤ 0 := by unfold zp; split <;> omega
  refine ⟨⟨p.2.2.1, p.2.2.2.1⟩, ?_⟩
  have := p.2.1
  have hM := p.2.2.1
  have : zp c b k ≤ 1000 ∨ zp c b k ≤ 0 := by unfold zp; split <;> omega
  omega
theorem copy_eq (hl : R.length ≤ 1000000) (h : ∀ M ∈ R, M.length ≤ 1000000) : F__law_copy R = .ok R := by
  unfold F__law_copy
  rw [mapA_pure0 (g := id) (fun M hM => ?_) hl, List.map_id]
  · rfl
  unfold F__law_copy_c1
  rw [mapA_pure0 (f := fun x => noEr (F__law_copy_c2 x)) (g := id) (fun r _ => rfl) (h M hM), List.map_id]
  rfl
theorem fr_mem {a b : Int} (f : Fr c a b t R) {M : List (List Int)} (hM : M ∈ R) : ∃ k : Int, 0 ≤ k ∧ k < nn c ∧ M = itD R k := by
  obtain ⟨j, hj⟩ := List.mem_iff_getElem?.mp hM
  have hl := get_len hj
  refine ⟨j, by omega, by have := f.len; omega, ?_⟩
  rw [itDn hl]
  rw [List.getElem?_eq_getElem hl] at hj
  exact (Option.some.inj hj).symm
theorem fr_copy {a b : Int} (f : Fr c a b t R) (hb : b ≤ 1000) : F__law_copy R = .ok R := by
  have n0 := nn_in c
  refine copy_eq (by rw [f.len]; omega) fun M hM => ?_
  obtain ⟨k, k0, k1, rfl⟩ := fr_mem f hM
  exact (fr_sh f hb k k0 k1).2
theorem frame_ok (f : Fr c w h (tp d) R) (hd : 8 ≤ d ∧ d ≤ 12) (hh : h ≤ 1000) : F_check_frame ⟨w, h, d, c⟩ R = .ok () := by
  have ht := tp_in hd
  have et : F_Format_top ⟨w, h, d, c⟩ = .ok (tp d) := by
    unfold F_Format_top
    exact Gv.get (Gv.grd ⟨by show 0 ≤ d; omega, by show d ≤ 4096; omega, one_4096⟩ (.ok rfl))
  have b2 : ∀ r : List Int, r ≠ [] → (∀ x ∈ r, 0 ≤ x ∧ x ≤ tp d) → F_check_frame_b2 ⟨w, h, d, c⟩ r = .ok () := fun r hr hx => by
    have a := hx _ (minL_spec r hr).1
    have b := hx _ (maxL_spec r hr).1
    unfold F_check_frame_b2
    rw [grd_pos hr, if_neg (by omega), grd_pos hr, et, noEr_ok, bind_ok, if_neg (by omega)]
  unfold F_check_frame
  rw [sizes_eq, bind_ok, shape_ok f.len (fr_sh f hh), bind_ok, unit_ok (fun M hM => ?_)]
  · rfl
  obtain ⟨k, k0, k1, rfl⟩ := fr_mem f hM
  have p := f.pl k k0 k1
  have hne : ∀ r ∈ itD R k, r ≠ [] := fun r hr e => by
    have l := p.2.2.2.1 r hr
    have l1 := p.1
    rw [e] at l
    have : (([] : List Int).length : Int) = 0 := rfl
    omega
  unfold F_check_frame_b1
  rw [unit_ok (fun r hr => b2 r (hne r hr) (p.2.2.2.2 r hr))]
  rfl
def PF (w h c : Int) (R : List (List (List Int))) : List (List (List Int)) := (rng 0 (nn c)).map fun k => padP (itD R k) (zp c (up w) k) (zp c (up h) k)
def CF (w h c : Int) (R : List (List (List Int))) : List (List (List Int)) := (rng 0 (nn c)).map fun k => cropP (itD R k) (zp c w k) (zp c h k)
theorem tab_at {g : Int → List (List Int)} {k : Int} (k0 : 0 ≤ k) (k1 : k < nn c) : itD ((rng 0 (nn c)).map g) k = g k := by
  rw [rng_map_itD k0 (by omega), Int.zero_add]
theorem pf_eq (f : Fr c w h (tp d) R) (hw : 1 ≤ w ∧ w ≤ 20) (hh : 1 ≤ h ∧ h ≤ 20) (hd : 8 ≤ d ∧ d ≤ 12) : F_pad_frame ⟨w, h, d, c⟩ R = .ok (PF w h c R) := by
  have n0 := nn_in c
  have uw := up_in hw
  have uh := up_in hh
  unfold F_pad_frame
  rw [frame_ok f hd (by omega), bind_ok, coded_eq, bind_ok, zip_zs f.len]
  have e : mapA ((rng 0 (nn c)).map fun k => (itD R k, (zp c (up w) k, zp c (up h) k))) [] (fun x => noEr (F_pad_frame_c1 x)) = .ok (((rng 0 (nn c)).map fun k => (itD R k, (zp c (up w) k, zp c (up h) k))).map fun x => padP x.1 x.2.1 x.2.2) := by
    refine mapA_pure0 (fun x hx => ?_) (by rw [List.length_map, rng_len]; omega)
    obtain ⟨k, hk, rfl⟩ := List.mem_map.mp hx
    have q := rng_mem hk
    unfold F_pad_frame_c1
    show noEr (Rx.bind (F__pad_plane (itD R k) (zp c (up w) k, zp c (up h) k)) _) = _
    have z1 := zp_in (c := c) (pl := k) (l := 8) (u := 24) (a := up w) (by omega) (by omega)
    have z2 := zp_in (c := c) (pl := k) (l := 8) (u := 24) (a := up h) (by omega) (by omega)
    rw [pad_eq (f.pl k q.1 (by omega)) ⟨zp_le uw.1, by omega⟩ ⟨zp_le uh.1, by omega⟩]
    rfl
  rw [e, List.map_map]
  rfl
theorem pf_fr (f : Fr c w h t R) (hw : 1 ≤ w ∧ w ≤ 20) (hh : 1 ≤ h ∧ h ≤ 20) : Fr c (up w) (up h) t (PF w h c R) := by
  refine ⟨by unfold PF; rw [List.length_map, rng_len], fun k k0 k1 => ?_⟩
  unfold PF
  rw [tab_at k0 k1]
  exact pad_pl (f.pl k k0 k1) (zp_le (up_in hw).1) (zp_le (up_in hh).1)
theorem cf_eq (f : Fr c (up w) (up h) t R) (hw : 1 ≤ w ∧ w ≤ 20) (hh : 1 ≤ h ∧ h ≤ 20) : F_crop_planes ⟨w, h, d, c⟩ R = .ok (CF w h c R) := by
  have n0 := nn_in c
  have uh := up_in hh
  unfold F_crop_planes
  rw [coded_eq, bind_ok, shape_ok f.len (fr_sh f (by omega)), bind_ok, sizes_eq, bind_ok, zip_zs f.len]
  have e : mapA ((rng 0 (nn c)).map fun k => (itD R k, (zp c w k, zp c h k))) [] (fun x => noEr (F_crop_planes_c1 x)) = .ok (((rng 0 (nn c)).map fun k => (itD R k, (zp c w k, zp c h k))).map fun x => cropP x.1 x.2.1 x.2.2) := by
    refine mapA_pure0 (fun x hx => ?_) (by rw [List.length_map, rng_len]; omega)
    obtain ⟨k, hk, rfl⟩ := List.mem_map.mp hx
    have q := rng_mem hk
    unfold F_crop_planes_c1
    show noEr (Rx.bind (F__crop_plane (itD R k) (zp c w k, zp c h k)) _) = _
    rw [crop_eq (fr_sh f (by omega) k q.1 (by omega)).2]
    rfl
  rw [e, List.map_map]
  rfl
theorem cf_pf (f : Fr c w h t R) (hw : 1 ≤ w ∧ w ≤ 20) (hh : 1 ≤ h ∧ h ≤ 20) : CF w h c (PF w h c R) = R := by
  unfold CF
  conv => rhs; rw [list_tab f.len]
  refine List.map_congr_left fun k hk => ?_
  have q := rng_mem hk
  unfold PF
  rw [tab_at q.1 (by omega)]
  exact crop_pad (f.pl k q.1 (by omega)) (zp_le (up_in hw).1) (zp_le (up_in hh).1)
theorem cf_fr (f : Fr c (up w) (up h) t R) (hw : 1 ≤ w ∧ w ≤ 20) (hh : 1 ≤ h ∧ h ≤ 20) : Fr c w h t (CF w h c R) := by
  refine ⟨by unfold CF; rw [List.length_map, rng_len], fun k k0 k1 => ?_⟩
  unfold CF
  rw [tab_at k0 k1]
  have z1 := zp_in (c := c) (pl := k) (l := 1) (u := 20) hw (by omega)
  have z2 := zp_in (c := c) (pl := k) (l := 1) (u := 20) hh (by omega)
  exact crop_pl (f.pl k k0 k1) ⟨by omega, zp_le (up_in hw).1⟩ ⟨by omega, zp_le (up_in hh).1⟩
theorem crop_er (e : F__check_shape R (zs c (up w) (up h)) = .er 2) : F_crop_planes ⟨w, h, d, c⟩ R = .er 2 := by
  unfold F_crop_planes
  rw [coded_eq, bind_ok, e]
  rfl
theorem refused_ok (e : F__check_shape R (zs c (up w) (up h)) = .er 2) (hl : R.length ≤ 1000000) (hM : ∀ M ∈ R, M.length ≤ 1000000) : F__law_refused ⟨w, h, d, c⟩ R = .ok true := by
  refine Gv.get ?_
  unfold F__law_refused
  exact Gv.bind_eq (copy_eq hl hM) (Gv.tryEr (crop_er e) (by decide) (.ok (decide_eq_true rfl)))
end
/-! k03 four -/
theorem set_at {α : Type} [Inhabited α] {xs : List α} {k : Int} {y : α} (h1 : k < (xs.length : Int)) (h0 : 0 ≤ k) : itD (setL xs k y) k = y := by
  obtain ⟨j, rfl⟩ : ∃ j : Nat, k = (j : Int) := ⟨k.toNat, by omega⟩
  have hj : j < xs.length := by omega
  have e : setL xs (j : Int) y = xs.set j y := by
    unfold setL ixN
    rw [if_pos (by omega), if_pos (by omega)]
    rfl
  have hj2 : j < (xs.set j y).length := by rw [List.length_set]; exact hj
  rw [e, itDn hj2, List.getElem_set_self]
/-! ### what is spoilt -/
/-- planes that may be changed -/
def PQ (B : Nat) (r : List (List Int)) : Prop := (0 < r.length ∧ r.length ≤ 1000) ∧ ∀ l ∈ r, 0 < l.length ∧ l.length ≤ B
def FQ (n B : Nat) (X : List (List (List Int))) : Prop := X.length = n ∧ ∀ r ∈ X, PQ B r
theorem pq_set {B : Nat} {r : List (List Int)} {k : Int} {l : List Int} (h : PQ B r) (hl : 0 < l.length ∧ l.length ≤ B) : PQ B (setL r k l) :=
  ⟨by rw [setL_len]; exact h.1, fun q hq => (setL_mem hq).elim (h.2 q) (fun e => e ▸ hl)⟩
theorem fq_set {n B : Nat} {X : List (List (List Int))} {k : Int} {r : List (List Int)} (h : FQ n B X) (hr : PQ B r) : FQ n B (setL X k r) :=
  ⟨by rw [setL_len]; exact h.1, fun q hq => (setL_mem hq).elim (h.2 q) (fun e => e ▸ hr)⟩
theorem fq_up {n B C : Nat} {X : List (List (List Int))} (h : FQ n B X) (hb : B ≤ C) : FQ n C X :=
  ⟨h.1, fun r hr => ⟨(h.2 r hr).1, fun l hl => ⟨((h.2 r hr).2 l hl).1, by have := ((h.2 r hr).2 l hl).2; omega⟩⟩⟩
section
variable {n B : Nat} {X : List (List (List Int))} {k : Int}
theorem fq_at (h : FQ n B X) (k0 : 0 ≤ k) (k1 : k < n) : (-(X.length : Int) ≤ k ∧ k < (X.length : Int)) ∧ PQ B (itD X k) := by
  have g : -(X.length : Int) ≤ k ∧ k < (X.length : Int) := by have := h.1; omega
  exact ⟨g, h.2 _ (itD_mem g)⟩
theorem b12_eq (h : FQ n B X) (k0 : 0 ≤ k) (k1 : k < n) {y : Int} (y0 : 0 ≤ y) (y1 : y < ((itD X k).length : Int)) :
    ∃ Y, F_law_b12 k X X y = .ok (Y, Y) ∧ FQ n B Y ∧ (itD Y k).length = (itD X k).length := by
  obtain ⟨g, p⟩ := fq_at h k0 k1
  have gy : -((itD X k).length : Int) ≤ y ∧ y < ((itD X k).length : Int) := by omega
  have pl := p.2 _ (itD_mem gy)
  have g0 : -((itD (itD X k) y).length : Int) ≤ 0 ∧ 0 < ((itD (itD X k) y).length : Int) := by omega
  have q := pq_set (k := y) (l := setL (itD (itD X k) y) 0 (-9 - y)) p (by rw [setL_len]; exact pl)
  refine ⟨setL X k (setL (itD X k) y (setL (itD (itD X k) y) 0 (-9 - y))), Gv.get ?_, fq_set h q, ?_⟩
  · unfold F_law_b12
    refine Gv.grd g (Gv.grd gy (Gv.grd g0 (Gv.bnd fun a ha => Gv.bnd fun b hb => Gv.grd g (Gv.grd gy (Gv.grd g0 (Gv.bnd fun a2 ha2 => Gv.bnd fun b2 hb2 => .ok ?_))))))
    rw [hb, hb2, ha, ha2]
  · have e : itD (setL X k (setL (itD X k) y (setL (itD (itD X k) y) 0 (-9 - y)))) k = setL (itD X k) y (setL (itD (itD X k) y) 0 (-9 - y)) := set_at g.2 k0
    rw [e, setL_len]
theorem r12_eq (h : FQ n B X) (hB : B ≤ 2000) (k0 : 0 ≤ k) (k1 : k < n) : ∃ Y, F_law_r12 k X X = .ok (Y, Y) ∧ FQ n (B + 1) Y := by
  obtain ⟨g, p⟩ := fq_at h k0 k1
  have g1 : -((itD X k).length : Int) ≤ -1 ∧ -1 < ((itD X k).length : Int) := by have := p.1; omega
  have pl := p.2 _ (itD_mem g1)
  refine ⟨setL X k (setL (itD X k) (-1) (itD (itD X k) (-1) ++ [5])), Gv.get ?_, fq_set (fq_up h (by omega)) (pq_set ((fq_up h (Nat.le_succ B)).2 _ (itD_mem g)) (by rw [List.length_append]; show 0 < _ + 1 ∧ _ + 1 ≤ B + 1; omega))⟩
  unfold F_law_r12
  refine Gv.grd g (Gv.grd g1 (Gv.grd (by omega) (Gv.bnd fun a ha => Gv.bnd fun b hb => Gv.grd g (Gv.grd g1 (Gv.grd (by omega) (Gv.bnd fun a2 ha2 => Gv.bnd fun b2 hb2 => .ok ?_))))))
  rw [hb, hb2, ha, ha2]
theorem b11_eq (h : FQ n B X) (hB : B ≤ 2000) (k0 : 0 ≤ k) (k1 : k < n) : ∃ Y, F_law_b11 X X k = .ok (Y, Y) ∧ FQ n (B + 1) Y := by
  obtain ⟨g, p⟩ := fq_at h k0 k1
  have key : Gv (F_law_b11 X X k) (fun s => ∃ Y, s = (Y, Y) ∧ FQ n (B + 1) Y) := by
    unfold F_law_b11
    refine Gv.grd g (Gv.grd ⟨by omega, by have := p.1; omega⟩ ?_)
    refine Gv.bind (Gv.forS (P := fun _ s => ∃ Y, s = (Y, Y) ∧ FQ n B Y ∧ (itD Y k).length = (itD X k).length) ⟨X, rfl, h, rfl⟩ fun i y s hy hs => ?_) fun s hs => ?_
    · obtain ⟨rfl, hi⟩ := rng_at hy
      obtain ⟨Y, rfl, hY, hl⟩ := hs
      obtain ⟨Z, e, hZ, hl2⟩ := b12_eq hY k0 k1 (y := 0 + (i : Int)) (by omega) (by omega)
      exact .of_eq e ⟨Z, rfl, hZ, hl2.trans hl⟩
    · obtain ⟨Y, rfl, hY, _⟩ := hs
      obtain ⟨Z, e, hZ⟩ := r12_eq hY hB k0 k1
      exact .of_eq e ⟨Z, rfl, hZ⟩
  obtain ⟨s, e, Y, rfl, hY⟩ := key.eq
  exact ⟨Y, e, hY⟩
theorem b16_eq (h : FQ n B X) (hB : B ≤ 2000) (k0 : 0 ≤ k) (k1 : k < n) : ∃ Y, F_law_b16 X X k = .ok (Y, Y) ∧ FQ n (B + 1) Y := by
  obtain ⟨g, p⟩ := fq_at h k0 k1
  have g0 : -((itD X k).length : Int) ≤ 0 ∧ 0 < ((itD X k).length : Int) := by have := p.1; omega
  have p0 := p.2 _ (itD_mem g0)
  have g00 : -((itD (itD X k) 0).length : Int) ≤ 0 ∧ 0 < ((itD (itD X k) 0).length : Int) := by omega
  have h2 : FQ n B (setL X k (setL (itD X k) 0 (setL (itD (itD X k) 0) 0 (-9)))) := fq_set h (pq_set p (by rw [setL_len]; exact p0))
  generalize hX2 : setL X k (setL (itD X k) 0 (setL (itD (itD X k) 0) 0 (-9))) = X2 at h2
  obtain ⟨g', p'⟩ := fq_at h2 k0 k1
  have g1 : -((itD X2 k).length : Int) ≤ -1 ∧ -1 < ((itD X2 k).length : Int) := by have := p'.1; omega
  have pl := p'.2 _ (itD_mem g1)
  refine ⟨setL X2 k (setL (itD X2 k) (-1) (itD (itD X2 k) (-1) ++ [k])), Gv.get ?_, fq_set (fq_up h2 (by omega)) (pq_set ((fq_up h2 (Nat.le_succ B)).2 _ (itD_mem g')) (by rw [List.length_append]; show 0 < _ + 1 ∧ _ + 1 ≤ B + 1; omega))⟩
  unfold F_law_b16
  refine Gv.grd g (Gv.grd g0 (Gv.grd g00 (Gv.bnd fun a ha => Gv.bnd fun b hb => Gv.grd g (Gv.grd g0 (Gv.grd g00 (Gv.bnd fun a2 ha2 => Gv.bnd fun b2 hb2 => ?_))))))
  have e1 : b = X2 := by rw [hb, ha, hX2]
  have e2 : b2 = X2 := by rw [hb2, ha2, hX2]
  subst e1
  rw [e2]
  refine Gv.grd g' (Gv.grd g1 (Gv.grd (by omega) (Gv.bnd fun a ha => Gv.bnd fun b hb => Gv.grd g' (Gv.grd g1 (Gv.grd (by omega) (Gv.bnd fun a2 ha2 => Gv.bnd fun b2 hb2 => .ok ?_))))))
  rw [hb, hb2, ha, ha2]
end
/-! k03 five -/
theorem mapA_gvA {α β : Type} {Q : Nat → β → Prop} {xs : List α} {acc : List β} {f : α → Rx β} (hf : ∀ (i : Nat) x, xs[i]? = some x → Gv (f x) (Q (acc.length + i))) (ha : ∀ (i : Nat) y, acc[i]? = some y → Q i y) (hl : acc.length + xs.length ≤ 1000000) : Gv (mapA xs acc f) (fun v => v.length = acc.length + xs.length ∧ ∀ (i : Nat) y, v[i]? = some y → Q i y) := by
  induction xs generalizing acc with
  | nil => exact .ok ⟨by simp, ha⟩
  | cons x r ih =>
    rw [List.length_cons] at hl
    unfold mapA
    refine Gv.grd (by omega) (Gv.bind (hf 0 x rfl) fun y hy => ?_)
    have e : (acc ++ [y]).length = acc.length + 1 := by rw [List.length_append]; rfl
    refine (ih (acc := acc ++ [y]) (fun i z hz => ?_) (fun i z hz => ?_) (by rw [e]; omega)).imp fun v p => ⟨by rw [p.1, e, List.length_cons]; omega, p.2⟩
    · rw [e, Nat.add_assoc, Nat.add_comm 1 i]
      exact hf (i + 1) z (by simpa using hz)
    · rcases Nat.lt_trichotomy i acc.length with q | q | q
      · rw [List.getElem?_append_left q] at hz
        exact ha i z hz
      · subst q
        rw [List.getElem?_append_right (Nat.le_refl _), Nat.sub_self] at hz
        cases hz
        exact hy
      · rw [List.getElem?_append_right (by omega)] at hz
        have : 1 ≤ i - acc.length := by omega
        rw [List.getElem?_eq_none (by show 1 ≤ _; exact this)] at hz
        cases hz
theorem mapA_ix {α β : Type} {Q : Nat → β → Prop} {xs : List α} {f : α → Rx β} (hf : ∀ (i : Nat) x, xs[i]? = some x → Gv (f x) (Q i)) (hl : xs.length ≤ 1000000) : Gv (mapA xs [] f) (fun v => v.length = xs.length ∧ ∀ (i : Nat) y, v[i]? = some y → Q i y) :=
  (mapA_gvA (acc := []) (fun i x h => by rw [List.length_nil, Nat.zero_add]; exact hf i x h) (fun i y h => by cases h) (by simpa using hl)).imp fun v p => ⟨by simpa using p.1, p.2⟩
theorem ixQ {β : Type} [Inhabited β] {Q : Nat → β → Prop} {v : List β} (h : ∀ (i : Nat) y, v[i]? = some y → Q i y) {k : Int} (h0 : 0 ≤ k) (h1 : k < v.length) : Q k.toNat (itD v k) := by
  rw [itD_nat (j := k.toNat) (by omega) (by omega)]
  exact h _ _ (List.getElem?_eq_getElem (by omega))
theorem cut_drop {α : Type} {xs : List α} {k : Int} (h0 : 0 ≤ k) (h1 : k ≤ xs.length) : cutL xs (some k) none = xs.drop k.toNat := by
  have e : HT.sIx xs.length xs.length none = xs.length := rfl
  unfold cutL
  rw [sIx_at h0 h1, e, List.take_of_length_le (by rw [List.length_drop]; omega)]
theorem set_other {α : Type} [Inhabited α] {xs : List α} {k j : Int} {y : α} (h0 : 0 ≤ k) (h1 : k < (xs.length : Int)) (j0 : 0 ≤ j) (j1 : j < (xs.length : Int)) (n : j ≠ k) : itD (setL xs k y) j = itD xs j := by
  obtain ⟨a, rfl⟩ : ∃ a : Nat, k = (a : Int) := ⟨k.toNat, by omega⟩
  obtain ⟨b, rfl⟩ : ∃ b : Nat, j = (b : Int) := ⟨j.toNat, by omega⟩
  have ha : a < xs.length := by omega
  have hb : b < xs.length := by omega
  have e : setL xs (a : Int) y = xs.set a y := by
    unfold setL ixN
    rw [if_pos (by omega), if_pos (by omega)]
    rfl
  have hb2 : b < (xs.set a y).length := by rw [List.length_set]; exact hb
  rw [e, itDn hb2, itDn hb, List.getElem_set_ne (by omega)]
section
variable {A B c t : Int} {O : List (List (List Int))}
/-- what is refused -/
def Bad (A B c : Int) (R : List (List (List Int))) : Prop := F__check_shape R (zs c A B) = .er 2 ∧ R.length ≤ 1000000 ∧ ∀ M ∈ R, M.length ≤ 1000000
theorem bad_set (f : Fr c A B t O) (hB : B ≤ 24) {pl : Int} (p0 : 0 ≤ pl) (p1 : pl < nn c) {M : List (List Int)} (hM : M.length ≤ 1000000) (hb : (M.length : Int) ≠ zp c B pl ∨ ∃ r ∈ M, (r.length : Int) ≠ zp c A pl) : Bad A B c (setL O pl M) := by
  have n0 := nn_in c
  have ol : ∀ N ∈ O, N.length ≤ 1000000 := fun N hN => by
    obtain ⟨k, k0, k1, rfl⟩ := fr_mem f hN
    exact (fr_sh f (by omega) k k0 k1).2
  have sl : (setL O pl M).length = nn c := by rw [setL_len]; exact f.len
  have mem : ∀ N ∈ setL O pl M, N.length ≤ 1000000 := fun N hN => (setL_mem hN).elim (ol N) (fun e => e ▸ hM)
  have e : itD (setL O pl M) pl = M := set_at (by rw [f.len]; exact p1) p0
  exact ⟨shape_er sl (fun k k0 k1 => mem _ (itD_mem (by omega))) p0 p1 (by rw [e]; exact hb), by omega, mem⟩
theorem spoilt_gv (f : Fr c A B t O) (hA : 8 ≤ A ∧ A ≤ 24) (hB : 8 ≤ B ∧ B ≤ 24) {kind p r s : Int} (hk : 0 ≤ kind ∧ kind < 7) : Gv (F__law_spoilt O kind p r s) (Bad A B c) := by
  have n0 := nn_in c
  have fl := f.len
  have gO : ∀ k : Int, 0 ≤ k → k < nn c → -(O.length : Int) ≤ k ∧ k < (O.length : Int) := fun k a b => by omega
  unfold F__law_spoilt
  refine Gv.bind_eq (fr_copy f (by omega)) (Gv.grd (by omega) (Gv.bnd fun pl hpl => ?_))
  have p0 : 0 ≤ pl ∧ pl < nn c := by
    rw [fl] at hpl
    have a := Int.emod_nonneg p (show (nn c : Int) ≠ 0 by omega)
    have b := Int.emod_lt_of_pos p (show 0 < (nn c : Int) by omega)
    omega
  have P := f.pl pl p0.1 p0.2
  have zA := zp_in (c := c) (pl := pl) hA (by omega)
  have zB := zp_in (c := c) (pl := pl) hB (by omega)
  have ml := P.2.2.1
  have ol : ∀ N ∈ O, N.length ≤ 1000000 := fun N hN => by
    obtain ⟨k, k0, k1, rfl⟩ := fr_mem f hN
    exact (fr_sh f (by omega) k k0 k1).2
  generalize hM : itD O pl = M at P ml ⊢
  refine Gv.grd (gO pl p0.1 p0.2) (Gv.grd (by omega) (Gv.bnd fun row hrow => ?_))
  have r0 : 0 ≤ row ∧ row < (M.length : Int) := by
    have a := Int.emod_nonneg r (show (M.length : Int) ≠ 0 by omega)
    have b := Int.emod_lt_of_pos r (show 0 < (M.length : Int) by omega)
    omega
  have gr : -(M.length : Int) ≤ row ∧ row < (M.length : Int) := by omega
  have rl := P.2.2.2.1 _ (itD_mem gr)
  have c1 : (cutL M none (some row)).length = row.toNat := by rw [cut_take r0.1 (by omega), List.length_take]; omega
  have c2 : (cutL M (some (row + 1)) none).length = M.length - (row + 1).toNat := by rw [cut_drop (by omega) (by omega), List.length_drop]
  have c3 : (cutL M (some row) none).length = M.length - row.toNat := by rw [cut_drop (by omega) (by omega), List.length_drop]
  have d1 : (cutL O none (some pl)).length = pl.toNat := by rw [cut_take p0.1 (by omega), List.length_take]; omega
  have d2 : (cutL O (some (pl + 1)) none).length = O.length - (pl + 1).toNat := by rw [cut_drop (by omega) (by omega), List.length_drop]
  refine Gv.ite (fun k0 => Gv.grd (by omega) (.ok ⟨shape_er0 (by rw [List.length_append]; omega), by rw [List.length_append]; omega, fun N hN => ?_⟩)) fun k0 => ?_
  · rcases List.mem_append.mp hN with q | q
    · unfold cutL at q
      exact ol N (List.mem_of_mem_drop (List.mem_of_mem_take q))
    · unfold cutL at q
      exact ol N (List.mem_of_mem_drop (List.mem_of_mem_take q))
  refine Gv.ite (fun k1 => Gv.grd (by show O.length + 1 ≤ _; omega) (.ok ⟨shape_er0 (by rw [List.length_append]; show O.length + 1 ≠ _; omega), by rw [List.length_append]; show O.length + 1 ≤ _; omega, fun N hN => ?_⟩)) fun k1 => ?_
  · rcases List.mem_append.mp hN with q | q
    · exact ol N q
    · rw [List.mem_singleton.mp q]
      omega
  refine Gv.ite (fun k2 => Gv.grd (by omega) (Gv.grd (gO pl p0.1 p0.2) (Gv.bnd fun Y hY => Gv.neg (by omega) (Gv.neg (by omega) (Gv.neg (by omega) (Gv.neg (by omega) (.ok ?_))))))) fun k2 => ?_
  · rw [hY]
    exact bad_set f hB.2 p0.1 p0.2 (by rw [List.length_append]; omega) (.inl (by rw [List.length_append]; omega))
  refine Gv.ite (fun k3 => Gv.grd gr (Gv.grd (by show _ + 1 ≤ _; omega) (Gv.grd (by rw [List.length_append]; show _ + 1 + _ ≤ _; omega) (Gv.grd (gO pl p0.1 p0.2) (Gv.bnd fun Y hY => Gv.neg (by omega) (Gv.neg (by omega) (Gv.neg (by omega) (.ok ?_)))))))) fun k3 => ?_
  · rw [hY]
    have l3 : (cutL M none (some row) ++ [itD M row] ++ cutL M (some row) none).length = M.length + 1 := by
      rw [List.length_append, List.length_append, c1, c3]
      show row.toNat + 1 + _ = _
      omega
    exact bad_set f hB.2 p0.1 p0.2 (by rw [l3]; omega) (.inl (by rw [l3]; omega))
  have mem : ∀ {X : List (List Int)} {k : Int} {l : List Int}, 0 ≤ k → k < (X.length : Int) → l ∈ setL X k l := fun {X k l} a b => by
    have e : itD (setL X k l) k = l := set_at b a
    have z : itD (setL X k l) k ∈ setL X k l := itD_mem (by rw [setL_len]; omega)
    rw [e] at z
    exact z
  have ct : ∀ {l : List Int}, 1 ≤ l.length → (cutL l (some 1) none).length = l.length - 1 := fun {l} hl => by
    rw [cut_drop (by decide) (by omega), List.length_drop]
    rfl
  refine Gv.ite (fun k4 => Gv.grd gr (Gv.grd gr (Gv.bnd fun Y hY => Gv.neg (by omega) (Gv.neg (by omega) (.ok ?_))))) fun k4 => ?_
  · rw [hY]
    exact bad_set f hB.2 p0.1 p0.2 (by rw [setL_len]; omega) (.inr ⟨_, mem r0.1 r0.2, by rw [ct (by omega)]; omega⟩)
  refine Gv.ite (fun k5 => Gv.grd gr (Gv.grd (by show _ + 1 ≤ _; omega) (Gv.grd gr (Gv.bnd fun Y hY => Gv.neg (by omega) (.ok ?_))))) fun k5 => ?_
  · rw [hY]
    exact bad_set f hB.2 p0.1 p0.2 (by rw [setL_len]; omega) (.inr ⟨_, mem r0.1 r0.2, by rw [List.length_append]; show ((_ + 1 : Nat) : Int) ≠ _; omega⟩)
  refine Gv.pos (by omega) (Gv.grd (by omega) (Gv.bnd fun ot hot => ?_))
  have o0 : 0 ≤ ot ∧ ot < (M.length : Int) ∧ ot ≠ row := by
    by_cases q : row + 1 < (M.length : Int)
    · rw [Int.emod_eq_of_lt (by omega) q] at hot
      omega
    · rw [show row + 1 = (M.length : Int) by omega, Int.emod_self] at hot
      omega
  have go : -(M.length : Int) ≤ ot ∧ ot < (M.length : Int) := by omega
  have rlo := P.2.2.2.1 _ (itD_mem go)
  refine Gv.grd go (Gv.grd (by show _ + 1 ≤ _; omega) (Gv.grd go (Gv.bnd fun Y hY => ?_)))
  have eY : itD Y pl = setL M ot (itD M ot ++ [s]) := by rw [hY]; exact set_at (by omega) p0.1
  rw [eY, setL_len]
  refine Gv.grd gr (Gv.grd gr (Gv.bnd fun Z hZ => .ok ?_))
  have eR : itD (setL M ot (itD M ot ++ [s])) row = itD M row := set_other o0.1 o0.2.1 r0.1 r0.2 (fun z => o0.2.2 z.symm)
  rw [hZ, eR, hY]
  have ss : ∀ {X Y : List (List Int)}, setL (setL O pl X) pl Y = setL O pl Y := fun {X Y} => by
    unfold setL
    rw [List.length_set, List.set_set]
  rw [ss]
  exact bad_set f hB.2 p0.1 p0.2 (by rw [setL_len, setL_len]; omega) (.inr ⟨_, mem r0.1 (by rw [setL_len]; exact r0.2), by rw [ct (by omega)]; omega⟩)
end
/-! k03 six -/
/-! ### the law -/
theorem fmt_ok {w h d c : Int} (hw : 1 ≤ w ∧ w ≤ 20) (hh : 1 ≤ h ∧ h ≤ 20) (hd : 8 ≤ d ∧ d ≤ 12) (hc : 0 ≤ c ∧ c ≤ 2) : F_Format___init__ w h d c = .ok ⟨w, h, d, c⟩ := by
  unfold F_Format___init__
  rw [if_pos hw.1, if_pos (by omega), if_pos hh.1, if_pos (by omega), if_pos hd.1, if_pos hd.2, if_pos hc.1, if_pos hc.2]
structure St (w h d c : Int) (ds : List Int) : Prop where
  hw : 1 ≤ w ∧ w ≤ 20
  hh : 1 ≤ h ∧ h ≤ 20
  hd : 8 ≤ d ∧ d ≤ 12
  hc : 0 ≤ c ∧ c ≤ 2
  dl : ds.length = 8
  d3 : itD ds 3 = c
  d4 : 0 ≤ itD ds 4 ∧ itD ds 4 < 7
section
variable {w h d c t : Int} {ds xs : List Int} {O F : List (List (List Int))}
theorem St.gd (s : St w h d c ds) (k : Int) (z : 0 ≤ k ∧ k < 8) : -((ds : List Int).length : Int) ≤ k ∧ k < (ds.length : Int) := by rw [s.dl]; omega
theorem fr_fq {A B : Int} {R : List (List (List Int))} (f : Fr c A B t R) (hA : 1 ≤ A ∧ A ≤ 24) (hB : 1 ≤ B ∧ B ≤ 24) : FQ (nn c) 24 R := by
  refine ⟨f.len, fun M hM => ?_⟩
  obtain ⟨k, k0, k1, rfl⟩ := fr_mem f hM
  have p := f.pl k k0 k1
  have zA := zp_in (c := c) (pl := k) hA (by omega)
  have zB := zp_in (c := c) (pl := k) hB (by omega)
  exact ⟨by have := p.2.2.1; omega, fun l hl => by have := p.2.2.2.1 l hl; omega⟩
theorem loop16 (X : List (List (List Int))) (hX : FQ (nn c) 24 X) : Gv (forS (rng 0 (nn c)) (X, X) (fun s x => F_law_b16 s.1 s.2 x)) (fun s => s.1 = s.2) := by
  have n0 := nn_in c
  refine (Gv.forS (P := fun i s => s.1 = s.2 ∧ FQ (nn c) (24 + i) s.1) ⟨rfl, hX⟩ fun i k s hk hs => ?_).imp fun s hs => hs.1
  obtain ⟨rfl, hi⟩ := rng_at hk
  obtain ⟨a, b⟩ := s
  obtain ⟨e, q⟩ := hs
  dsimp only at e q
  subst e
  obtain ⟨Y, e, hY⟩ := b16_eq q (by omega) (k := 0 + (i : Int)) (by omega) (by omega)
  exact .of_eq e ⟨rfl, hY⟩
theorem loop11 (X : List (List (List Int))) (hX : FQ (nn c) 24 X) : Gv (forS (rng 0 (nn c)) (X, X) (fun s x => F_law_b11 s.1 s.2 x)) (fun s => s.1 = s.2) := by
  have n0 := nn_in c
  refine (Gv.forS (P := fun i s => s.1 = s.2 ∧ FQ (nn c) (24 + i) s.1) ⟨rfl, hX⟩ fun i k s hk hs => ?_).imp fun s hs => hs.1
  obtain ⟨rfl, hi⟩ := rng_at hk
  obtain ⟨a, b⟩ := s
  obtain ⟨e, q⟩ := hs
  dsimp only at e q
  subst e
  obtain ⟨Y, e, hY⟩ := b11_eq q (by omega) (k := 0 + (i : Int)) (by omega) (by omega)
  exact .of_eq e ⟨rfl, hY⟩
theorem r11_ok (s : St w h d c ds) (fF : Fr c w h (tp d) F) (fO : Fr c (up w) (up h) (tp d) O) {X Y : List (List (List Int))} : F_law_r11 ds ⟨w, h, d, c⟩ (nn c : Int) (zs c w h) F O (PF w h c F) F X X Y Y = .ok true := by
  have n0 := nn_in c
  have uw := up_in s.hw
  have uh := up_in s.hh
  refine Gv.get ?_
  unfold F_law_r11
  refine Gv.pos rfl (Gv.pos rfl (Gv.pos rfl (Gv.bind_eq (pf_eq fF s.hw s.hh s.hd) (Gv.pos rfl (Gv.bind_eq (fr_copy fO (by omega)) ?_)))))
  have cut : mapA (rng 0 (nn c)) [] (fun x => noEr (F_law_c14 (zs c w h) O x)) = .ok (CF w h c O) := by
    rw [mapA_pure0 (g := fun k => cropP (itD O k) (zp c w k) (zp c h k)) (fun k hk => ?_) (by rw [rng_len]; omega)]
    · rfl
    have q := rng_mem hk
    have gO : -(O.length : Int) ≤ k ∧ k < (O.length : Int) := by have := fO.len; omega
    have gZ : -((zs c w h).length : Int) ≤ k ∧ k < ((zs c w h).length : Int) := by rw [zs_len]; omega
    have e : itD (zs c w h) k = (zp c w k, zp c h k) := by
      unfold zs
      rw [rng_map_itD q.1 (by omega), Int.zero_add]
    refine Gv.get (Gv.noEr ?_)
    unfold F_law_c14
    refine Gv.grd gO (Gv.grd gZ ?_)
    rw [e]
    refine Gv.bind_eq (mapA_pure0 (g := fun r => cutL r none (some (zp c w k))) (fun r _ => ?_) ?_) (.ok rfl)
    · refine Gv.get (Gv.noEr ?_)
      unfold F_law_c15
      rw [e]
      exact Gv.grd gZ (.ok rfl)
    · have l := (fr_sh fO (by omega) k q.1 (by omega)).2
      have := cutL_len (itD O k) none (some (zp c h k))
      show (cutL (itD O k) none (some (zp c h k))).length ≤ _
      omega
  refine Gv.bind_eq (a := CF w h c O) (Gv.get (Gv.grd ⟨by omega, by omega⟩ (by rw [Int.toNat_natCast]; exact Gv.bind_eq cut (.ok rfl)))) ?_
  unfold F_law_k13
  refine Gv.bind_eq (cf_eq fO s.hw s.hh) (Gv.pos rfl (Gv.pos rfl (Gv.grd ⟨by omega, by omega⟩ ?_)))
  rw [Int.toNat_natCast]
  refine Gv.bind (loop16 _ (fr_fq (cf_fr fO s.hw s.hh) (by have := s.hw; omega) (by have := s.hh; omega))) fun z hz => ?_
  obtain ⟨a, b⟩ := z
  dsimp only at hz
  subst hz
  unfold F_law_r16
  refine Gv.pos rfl (Gv.pos rfl (Gv.grd (s.gd 4 (by decide)) (Gv.grd (s.gd 5 (by decide)) (Gv.grd (s.gd 6 (by decide)) (Gv.grd (s.gd 7 (by decide)) (Gv.bind (spoilt_gv fO (by omega) (by omega) s.d4) fun R hR => ?_))))))
  exact Gv.bind_eq (refused_ok hR.1 hR.2.1 hR.2.2) (.ok rfl)
theorem k9_ok (s : St w h d c ds) (fF : Fr c w h (tp d) F) (fO : Fr c (up w) (up h) (tp d) O) : F_law_k9 ds ⟨w, h, d, c⟩ (tp d) (nn c : Int) (zs c w h) F O (PF w h c F) F (PF w h c F) = .ok true := by
  have n0 := nn_in c
  have uw := up_in s.hw
  have uh := up_in s.hh
  have fP := pf_fr fF s.hw s.hh
  obtain ⟨g, p⟩ := fq_at (fr_fq fF (by have := s.hw; omega) (by have := s.hh; omega)) (k := 0) (by decide) (by omega)
  have g0 : -((itD F 0).length : Int) ≤ 0 ∧ 0 < ((itD F 0).length : Int) := by have := p.1; omega
  have p0 := p.2 _ (itD_mem g0)
  have g00 : -((itD (itD F 0) 0).length : Int) ≤ 0 ∧ 0 < ((itD (itD F 0) 0).length : Int) := by omega
  refine Gv.get ?_
  unfold F_law_k9
  refine Gv.bind_eq (cf_eq fP s.hw s.hh) ?_
  rw [cf_pf fF s.hw s.hh]
  refine Gv.pos rfl (Gv.pos rfl (Gv.grd g (Gv.grd g0 (Gv.grd g00 (Gv.bnd fun a ha => Gv.bnd fun b hb => Gv.bind_eq (fr_copy fF (by have := s.hh; omega)) ?_)))))
  refine Gv.bind_eq (a := b) (Gv.get (Gv.grd g (Gv.grd g0 (Gv.grd g00 (Gv.bnd fun a2 ha2 => Gv.bnd fun b2 hb2 => .ok (by rw [hb, hb2, ha, ha2])))))) ?_
  unfold F_law_k10
  refine Gv.bind_eq (fr_copy fP (by omega)) (Gv.grd ⟨by omega, by omega⟩ ?_)
  rw [Int.toNat_natCast]
  refine Gv.bind (loop11 _ (fr_fq fP (by omega) (by omega))) fun z hz => ?_
  obtain ⟨a', b'⟩ := z
  dsimp only at hz
  subst hz
  exact .of_eq (r11_ok s fF fO) rfl
theorem planes_gv {A B top : Int} {cell : Int → Rx (List (List Int))} (hc : ∀ k : Int, 0 ≤ k → k < nn c → Gv (cell k) (Pl (zp c A k) (zp c B k) top)) : Gv (mapA (rng 0 (nn c)) [] (fun x => noEr (cell x))) (Fr c A B top) := by
  have n0 := nn_in c
  refine (mapA_ix (Q := fun i M => Pl (zp c A i) (zp c B i) top M) (fun i x hx => Gv.noEr ?_) (by rw [rng_len]; omega)).imp fun v hv => ⟨by rw [hv.1, rng_len], fun k k0 k1 => ?_⟩
  · obtain ⟨rfl, hi⟩ := rng_at hx
    have := hc (0 + (i : Int)) (by omega) (by omega)
    rw [show (0 : Int) + (i : Int) = i by omega] at this ⊢
    exact this
  · have := ixQ hv.2 k0 (by rw [hv.1, rng_len]; omega)
    rw [show ((k.toNat : Nat) : Int) = k by omega] at this
    exact this
theorem zs_at {A B k : Int} (k0 : 0 ≤ k) (k1 : k < nn c) : itD (zs c A B) k = (zp c A k, zp c B k) := by
  unfold zs
  rw [rng_map_itD k0 (by omega), Int.zero_add]
theorem k2_ok (s : St w h d c ds) : F_law_k2 xs ds w h ⟨w, h, d, c⟩ (tp d) (nn c : Int) = .ok true := by
  have n0 := nn_in c
  have uw := up_in s.hw
  have uh := up_in s.hh
  have ht := tp_in s.hd
  have gz : ∀ (A B k : Int), 0 ≤ k → k < nn c → -((zs c A B).length : Int) ≤ k ∧ k < ((zs c A B).length : Int) := fun A B k a b => by rw [zs_len]; omega
  refine Gv.get ?_
  unfold F_law_k2
  refine Gv.grd ⟨by omega, by omega⟩ ?_
  rw [Int.toNat_natCast]
  refine Gv.bind_eq (a := zs c w h) (mapA_pure0 (g := fun k => (zp c w k, zp c h k)) (fun k _ => ?_) (by rw [rng_len]; omega)) (Gv.grd ⟨by omega, by omega⟩ ?_)
  · refine Gv.get (Gv.noEr ?_)
    unfold F_law_c3
    rw [s.d3]
    exact Gv.grd (s.gd 3 (by decide)) (Gv.bind_eq (lsize_eq w h k) (.ok rfl))
  refine Gv.bind_eq (a := zs c (up w) (up h)) (mapA_pure0 (g := fun k => (zp c (up w) k, zp c (up h) k)) (fun k _ => ?_) (by rw [rng_len]; omega)) ?_
  · refine Gv.get (Gv.noEr ?_)
    unfold F_law_c4 F__law_up
    rw [s.d3]
    exact Gv.bind_eq rfl (Gv.bind_eq rfl (Gv.grd (s.gd 3 (by decide)) (Gv.bind_eq (lsize_eq (up w) (up h) k) (.ok rfl))))
  refine Gv.bind (P := Fr c w h (tp d)) (Gv.grd ⟨by omega, by omega⟩ (Gv.bind (planes_gv fun k k0 k1 => ?_) fun v hv => .ok hv)) fun F fF => ?_
  · unfold F_law_c6
    rw [zs_at k0 k1]
    have z1 := zp_in (c := c) (pl := k) s.hw (by omega)
    have z2 := zp_in (c := c) (pl := k) s.hh (by omega)
    exact Gv.bind (cell_gv xs _ (by omega)) fun cc _ => Gv.grd (gz _ _ k k0 k1) (Gv.grd (gz _ _ k k0 k1) (Gv.bind (plane_gv cc (by omega) (by omega) (by omega)) fun v hv => .ok hv))
  unfold F_law_k5
  refine Gv.grd ⟨by omega, by omega⟩ ?_
  rw [Int.toNat_natCast]
  refine Gv.bind (P := Fr c (up w) (up h) (tp d)) (planes_gv fun k k0 k1 => ?_) fun O fO => Gv.grd ⟨by omega, by omega⟩ ?_
  · unfold F_law_c7
    rw [zs_at k0 k1]
    have z1 := zp_in (c := c) (pl := k) (l := 8) (u := 24) (a := up w) (by omega) (by omega)
    have z2 := zp_in (c := c) (pl := k) (l := 8) (u := 24) (a := up h) (by omega) (by omega)
    exact Gv.bind (cell_gv xs _ (by omega)) fun cc _ => Gv.grd (gz _ _ k k0 k1) (Gv.grd (gz _ _ k k0 k1) (Gv.bind (plane_gv cc (by omega) (by omega) (by omega)) fun v hv => .ok hv))
  refine Gv.bind_eq (a := PF w h c F) (mapA_pure0 (g := fun k => padP (itD F k) (zp c (up w) k) (zp c (up h) k)) (fun k hk => ?_) (by rw [rng_len]; omega)) (Gv.bind_eq (fr_copy fF (by have := s.hh; omega)) (Gv.bind_eq (pf_eq fF s.hw s.hh s.hd) ?_))
  · have q := rng_mem hk
    have k1 : k < nn c := by omega
    have gF : -(F.length : Int) ≤ k ∧ k < (F.length : Int) := by have := fF.len; omega
    have z1 := zp_in (c := c) (pl := k) (l := 8) (u := 24) (a := up w) (by omega) (by omega)
    have z2 := zp_in (c := c) (pl := k) (l := 8) (u := 24) (a := up h) (by omega) (by omega)
    refine Gv.get (Gv.noEr ?_)
    unfold F_law_c8
    rw [zs_at q.1 k1]
    exact Gv.grd gF (Gv.grd (gz _ _ k q.1 k1) (Gv.grd (gz _ _ k q.1 k1) (Gv.bind_eq (lawpad_eq (fF.pl k q.1 k1) ⟨zp_le uw.1, by omega⟩ ⟨zp_le uh.1, by omega⟩) (.ok rfl))))
  refine Gv.bind_eq (a := .go ()) (Gv.get (Gv.pos rfl (Gv.pos rfl (.ok rfl)))) ?_
  show Gv (F_law_k9 ds ⟨w, h, d, c⟩ (tp d) (nn c : Int) (zs c w h) F O (PF w h c F) F (PF w h c F)) _
  exact .of_eq (k9_ok s fF fO) rfl
end
theorem law_true (xs : List Int) (hx : xs.length ≤ 63) : F_law xs = .ok true := by
  refine Gv.get ?_
  unfold F_law
  refine Gv.bind (cell_gv xs 0 (by decide)) fun c0 _ => Gv.bind (draws_gv _ _ (by decide +kernel) (by decide +kernel)) fun v hv => ?_
  obtain ⟨d0, r0, rfl, b0, c0, hv⟩ := hv.cons
  obtain ⟨d1, r1, rfl, b1, c1, hv⟩ := hv.cons
  obtain ⟨d2, r2, rfl, b2, c2, hv⟩ := hv.cons
  obtain ⟨d3, r3, rfl, b3, c3, hv⟩ := hv.cons
  obtain ⟨d4, r4, rfl, b4, c4, hv⟩ := hv.cons
  obtain ⟨d5, r5, rfl, b5, c5, hv⟩ := hv.cons
  obtain ⟨d6, r6, rfl, b6, c6, hv⟩ := hv.cons
  obtain ⟨d7, r7, rfl, b7, c7, hv⟩ := hv.cons
  obtain rfl := hv.nil
  have gd : ∀ k : Int, 0 ≤ k ∧ k < 8 → -(([d0, d1, d2, d3, d4, d5, d6, d7] : List Int).length : Int) ≤ k ∧ k < (([d0, d1, d2, d3, d4, d5, d6, d7] : List Int).length : Int) := fun k z => by show -(8 : Int) ≤ k ∧ k < (8 : Int); omega
  have e2 : itD [d0, d1, d2, d3, d4, d5, d6, d7] 2 = d2 := rfl
  have e3 : itD [d0, d1, d2, d3, d4, d5, d6, d7] 3 = d3 := rfl
  rw [e2, e3]
  have s : St (1 + d0) (1 + d1) (8 + d2) d3 [d0, d1, d2, d3, d4, d5, d6, d7] := ⟨by omega, by omega, by omega, by omega, rfl, rfl, ⟨b4, c4⟩⟩
  refine Gv.grd (gd 0 (by decide)) (Gv.bnd fun w hw => Gv.grd (gd 1 (by decide)) (Gv.bnd fun h hh => Gv.grd (gd 2 (by decide)) (Gv.grd (gd 3 (by decide)) ?_)))
  have ew : w = 1 + d0 := hw
  have eh : h = 1 + d1 := hh
  rw [← ew, ← eh] at s
  refine Gv.bind_eq (fmt_ok s.hw s.hh s.hd s.hc) (Gv.bind_eq (a := tp (8 + d2)) (Gv.get (Gv.grd (gd 2 (by decide)) (Gv.grd ⟨by omega, by omega, one_4096⟩ (Gv.bnd fun top ht => .ok ht)))) ?_)
  unfold F_law_k1
  refine Gv.bind_eq (a := (nn d3 : Int)) (Gv.get (Gv.grd (gd 3 (by decide)) ?_)) (.of_eq (k2_ok s) rfl)
  rw [e3]
  refine Gv.ite (fun z => .ok ?_) fun z => .ok ?_
  · unfold nn
    rw [if_neg (by omega)]
    rfl
  · unfold nn
    rw [if_pos (by omega)]
    rfl

end Vx
namespace Vx
open PySem PySem.Spec PyProof.Rows L2
def topS (i : Nat) : Stmt := PySem.Challenge.pw_thaumatrope_k03_frames_padded_and_croppe.main.body.getD i (.Pass ⟨0, 0, 0, 0⟩)
abbrev s__law_draws : Stmt := topS 19
abbrev s_Format___init__ : Stmt := inClass (topS 8) 0
abbrev s__law_copy : Stmt := topS 21
abbrev s__check_shape : Stmt := topS 14
abbrev s_Format_planes : Stmt := inClass (topS 8) 2
abbrev s_Format__plane_size : Stmt := inClass (topS 8) 10
abbrev s_Format_size : Stmt := inClass (topS 8) 5
abbrev s__sizes : Stmt := topS 12
abbrev s_Format_top : Stmt := inClass (topS 8) 4
abbrev s_check_frame : Stmt := topS 9
abbrev s__pad_plane : Stmt := topS 15
abbrev s_Format_blocks : Stmt := inClass (topS 8) 7
abbrev s_Format_coded_size : Stmt := inClass (topS 8) 6
abbrev s__coded_sizes : Stmt := topS 13
abbrev s_pad_frame : Stmt := topS 10
abbrev s__crop_plane : Stmt := topS 16
abbrev s_crop_planes : Stmt := topS 11
abbrev s__law_refused : Stmt := topS 26
abbrev s__law_cell : Stmt := topS 18
abbrev s__law_size : Stmt := topS 22
abbrev s__law_plane : Stmt := topS 20
abbrev s__law_padded : Stmt := topS 24
abbrev s__law_spoilt : Stmt := topS 25
abbrev s__law_up : Stmt := topS 23
abbrev s_law : Stmt := topS 27
structure Ads where
  c_Format : Addr
  x_CodecError : Addr
  x_BadFormat : Addr
  x_BadFrame : Addr
  x_OutOfRange : Addr
  z0 : Addr
def excA (AD : Ads) : Nat → Addr
  | 0 => AD.x_CodecError
  | 1 => AD.x_BadFormat
  | 2 => AD.x_BadFrame
  | 3 => AD.x_OutOfRange
  | _ => AD.z0
structure Txt (w : World) (K : PySem.W.Frag) (mg : Str → Option Value) (AD : Ads) : Prop where
  b_abs : mg "abs" = none
  b_int : mg "int" = none
  b_list : mg "list" = none
  b_len : mg "len" = none
  b_any : mg "any" = none
  b_zip : mg "zip" = none
  b_range : mg "range" = none
  b_max : mg "max" = none
  b_min : mg "min" = none
  g_BLOCK : ∃ u, mg "BLOCK" = some u ∧ RelV (V.int 8) u
  b_isinstance : mg "isinstance" = none
  cl_Format : Cls K AD.c_Format
  n_Format_width : NoAttr K AD.c_Format "width"
  n_Format_height : NoAttr K AD.c_Format "height"
  n_Format_depth : NoAttr K AD.c_Format "depth"
  n_Format_chroma : NoAttr K AD.c_Format "chroma"
  xg_BadFormat : mg "BadFormat" = some (.ref AD.x_BadFormat)
  xx_BadFormat : PySem.W.excIn K AD.x_BadFormat [.type "ValueError", .type "Exception", .type "BaseException", .type "object"] "ValueError.__new__" = true
  xk_BadFormat : PySem.W.keepIn K (.ref AD.x_BadFormat) = true
  xb_BadFormat : PySem.W.subIn K (.ref AD.x_BadFormat) (.type "BaseException") = some true
  xt_BadFormat : PySem.W.typeIn K (.ref AD.x_BadFormat) = some (.type "type")
  xg_BadFrame : mg "BadFrame" = some (.ref AD.x_BadFrame)
  xx_BadFrame : PySem.W.excIn K AD.x_BadFrame [.type "ValueError", .type "Exception", .type "BaseException", .type "object"] "ValueError.__new__" = true
  xk_BadFrame : PySem.W.keepIn K (.ref AD.x_BadFrame) = true
  xb_BadFrame : PySem.W.subIn K (.ref AD.x_BadFrame) (.type "BaseException") = some true
  xt_BadFrame : PySem.W.typeIn K (.ref AD.x_BadFrame) = some (.type "type")
  xg_OutOfRange : mg "OutOfRange" = some (.ref AD.x_OutOfRange)
  xx_OutOfRange : PySem.W.excIn K AD.x_OutOfRange [.type "ValueError", .type "Exception", .type "BaseException", .type "object"] "ValueError.__new__" = true
  xk_OutOfRange : PySem.W.keepIn K (.ref AD.x_OutOfRange) = true
  xb_OutOfRange : PySem.W.subIn K (.ref AD.x_OutOfRange) (.type "BaseException") = some true
  xt_OutOfRange : PySem.W.typeIn K (.ref AD.x_OutOfRange) = some (.type "type")
  xg_CodecError : mg "CodecError" = some (.ref AD.x_CodecError)
  xx_CodecError : PySem.W.excIn K AD.x_CodecError [.type "ValueError", .type "Exception", .type "BaseException", .type "object"] "ValueError.__new__" = true
  xk_CodecError : PySem.W.keepIn K (.ref AD.x_CodecError) = true
  xb_CodecError : PySem.W.subIn K (.ref AD.x_CodecError) (.type "BaseException") = some true
  xt_CodecError : PySem.W.typeIn K (.ref AD.x_CodecError) = some (.type "type")
  xm_BadFrame_BadFrame : PySem.W.exmOne K (.ref AD.x_BadFrame) (.ref AD.x_BadFrame) = some true
  xo_BadFrame_CodecError : PySem.W.kitOne K (.ref AD.x_BadFrame) (.ref AD.x_CodecError) = some true
  xc_BadFrame : ExcC K AD.x_BadFrame
abbrev pat__law_draws_0 : Pat := (2, [], fun vs _ => vs)
abbrev pats__law_draws : List Pat := [pat__law_draws_0]
abbrev pat_Format___init___0 : Pat := (3, ["depth", "chroma"], fun vs zs => match vs, zs with | [a0, a1, a2], [b0, b1] => [a0, a1, a2, b0, b1] | _, _ => [])
abbrev pats_Format___init__ : List Pat := [pat_Format___init___0]
abbrev pat__law_copy_0 : Pat := (1, [], fun vs _ => vs)
abbrev pats__law_copy : List Pat := [pat__law_copy_0]
abbrev pat__check_shape_0 : Pat := (2, [], fun vs _ => vs)
abbrev pats__check_shape : List Pat := [pat__check_shape_0]
abbrev pats_Format_planes : List Pat := []
abbrev pat_Format__plane_size_0 : Pat := (4, [], fun vs _ => vs)
abbrev pats_Format__plane_size : List Pat := [pat_Format__plane_size_0]
abbrev pat_Format_size_0 : Pat := (2, [], fun vs _ => vs)
abbrev pats_Format_size : List Pat := [pat_Format_size_0]
abbrev pat__sizes_0 : Pat := (1, [], fun vs _ => vs)
abbrev pats__sizes : List Pat := [pat__sizes_0]
abbrev pats_Format_top : List Pat := []
abbrev pat_check_frame_0 : Pat := (2, [], fun vs _ => vs)
abbrev pats_check_frame : List Pat := [pat_check_frame_0]
abbrev pat__pad_plane_0 : Pat := (2, [], fun vs _ => vs)
abbrev pats__pad_plane : List Pat := [pat__pad_plane_0]
abbrev pat_Format_blocks_0 : Pat := (1, [], fun vs _ => vs)
abbrev pats_Format_blocks : List Pat := [pat_Format_blocks_0]
abbrev pat_Format_coded_size_0 : Pat := (2, [], fun vs _ => vs)
abbrev pats_Format_coded_size : List Pat := [pat_Format_coded_size_0]
abbrev pat__coded_sizes_0 : Pat := (1, [], fun vs _ => vs)
abbrev pats__coded_sizes : List Pat := [pat__coded_sizes_0]
abbrev pat_pad_frame_0 : Pat := (2, [], fun vs _ => vs)
abbrev pats_pad_frame : List Pat := [pat_pad_frame_0]
abbrev pat__crop_plane_0 : Pat := (2, [], fun vs _ => vs)
abbrev pats__crop_plane : List Pat := [pat__crop_plane_0]
abbrev pat_crop_planes_0 : Pat := (2, [], fun vs _ => vs)
abbrev pats_crop_planes : List Pat := [pat_crop_planes_0]
abbrev pat__law_refused_0 : Pat := (2, [], fun vs _ => vs)
abbrev pats__law_refused : List Pat := [pat__law_refused_0]
abbrev pat__law_cell_0 : Pat := (2, [], fun vs _ => vs)
abbrev pats__law_cell : List Pat := [pat__law_cell_0]
abbrev pat__law_size_0 : Pat := (4, [], fun vs _ => vs)
abbrev pats__law_size : List Pat := [pat__law_size_0]
abbrev pat__law_plane_0 : Pat := (4, [], fun vs _ => vs)
abbrev pats__law_plane : List Pat := [pat__law_plane_0]
abbrev pat__law_padded_0 : Pat := (3, [], fun vs _ => vs)
abbrev pats__law_padded : List Pat := [pat__law_padded_0]
abbrev pat__law_spoilt_0 : Pat := (5, [], fun vs _ => vs)
abbrev pats__law_spoilt : List Pat := [pat__law_spoilt_0]
abbrev pat__law_up_0 : Pat := (1, [], fun vs _ => vs)
abbrev pats__law_up : List Pat := [pat__law_up_0]
abbrev pats_law : List Pat := []
def sp__law_draws (K : PySem.W.Frag) (AD : Ads) : Sp := fun vs H Q E => ∃ (G : Hp) (cell' : Int) (a_limits : Addr) (limits' : List Int), vs = [.int cell', .ref a_limits] ∧ Same G H ∧ (hideL [] H) a_limits = some (.lst ((limits' : List Int).map V.int)) ∧ cW (F__law_draws cell' limits') (fun v => ∀ p H', H p = none → Same H H' → H' p = some (.lst (v.map V.int)) → Q (.ref p) H') (fun e => ∀ H', Same H H' → E (.ref (excA AD e)) none H')
def sp_Format___init__ (K : PySem.W.Frag) (AD : Ads) : Sp := fun vs H Q E => ∃ (G : Hp) (p_self dx_self : Addr) (width' : Int) (height' : Int) (depth' : Int) (chroma' : Int), vs = [.ref p_self, .int width', .int height', .int depth', .int chroma'] ∧ Same G H ∧ (∀ a ∈ [p_self], G a = none) ∧ H p_self = some (.ins AD.c_Format dx_self []) ∧ cW (F_Format___init__ width' height' depth' chroma') (fun v => ∀ (H' : Hp), SameX p_self H H' → H' p_self = some (.ins AD.c_Format dx_self [("width", V.int v.width), ("height", V.int v.height), ("depth", V.int v.depth), ("chroma", V.int v.chroma)]) → Q .non H') (fun e => ∀ H', SameX p_self H H' → E (.ref (excA AD e)) none H')
def sp__law_copy (K : PySem.W.Frag) (AD : Ads) : Sp := fun vs H Q E => ∃ (G : Hp) (v_planes : V) (planes' : (List (List (List Int)))), vs = [v_planes] ∧ Same G H ∧ Rp (hideL [] H) v_planes ((encL (encL (encL PyData.int))) planes') ∧ cW (F__law_copy planes') (fun v => ∀ (H' : Hp) (a : Addr) (vs : List V) (L : List Addr) (G' : Hp), H a = none → (∀ b ∈ L, H b = none) → (∀ b ∈ L, b ≠ a) → Same H H' → Same G G' → Same G' H' → (∀ b, H b ≠ none → G b = none → G' b = none) → G' a = none → (∀ b ∈ L, G' b = none) → H' a = some (.lst vs) → OwAll G' H' L vs ((v : (List (List (List Int)))).map (oL (oL oI))) → Q (.ref a) H') (fun e => ∀ H', Same H H' → E (.ref (excA AD e)) none H')
def sp__check_shape (K : PySem.W.Frag) (AD : Ads) : Sp := fun vs H Q E => ∃ (G : Hp) (v_planes : V) (planes' : (List (List (List Int)))) (v_sizes : V) (sizes' : (List (Int × Int))), vs = [v_planes, v_sizes] ∧ Same G H ∧ Rp (hideL [] H) v_planes ((encL (encL (encL PyData.int))) planes') ∧ Rp (hideL [] H) v_sizes ((encL (encT2 PyData.int PyData.int)) sizes') ∧ cW (F__check_shape planes' sizes') (fun v => ∀ H', Same H H' → Q .non H') (fun e => ∀ H', Same H H' → E (.ref (excA AD e)) none H')
def sp_Format_planes (K : PySem.W.Frag) (AD : Ads) : Sp := fun vs H Q E => ∃ (G : Hp) (p_self dx_self : Addr) (self' : St_Format), vs = [.ref p_self] ∧ Same G H ∧ (hideL [] H) p_self = some (.ins AD.c_Format dx_self [("width", V.int self'.width), ("height", V.int self'.height), ("depth", V.int self'.depth), ("chroma", V.int self'.chroma)]) ∧ cW (F_Format_planes self') (fun v => ∀ H', Same H H' → Q (.int v) H') (fun e => ∀ H', Same H H' → E (.ref (excA AD e)) none H')
def sp_Format__plane_size (K : PySem.W.Frag) (AD : Ads) : Sp := fun vs H Q E => ∃ (G : Hp) (p_self dx_self : Addr) (self' : St_Format) (plane' : Int) (width' : Int) (height' : Int), vs = [.ref p_self, .int plane', .int width', .int height'] ∧ Same G H ∧ (hideL [] H) p_self = some (.ins AD.c_Format dx_self [("width", V.int self'.width), ("height", V.int self'.height), ("depth", V.int self'.depth), ("chroma", V.int self'.chroma)]) ∧ cW (F_Format__plane_size self' plane' width' height') (fun v => ∀ u H' G', Same H H' → Same G G' → Same G' H' → (∀ b, H b ≠ none → G b = none → G' b = none) → Rp G' u ((encT2 PyData.int PyData.int) v) → Q u H') (fun e => ∀ H', Same H H' → E (.ref (excA AD e)) none H')
def sp_Format_size (K : PySem.W.Frag) (AD : Ads) : Sp := fun vs H Q E => ∃ (G : Hp) (p_self dx_self : Addr) (self' : St_Format) (plane' : Int), vs = [.ref p_self, .int plane'] ∧ Same G H ∧ (hideL [] H) p_self = some (.ins AD.c_Format dx_self [("width", V.int self'.width), ("height", V.int self'.height), ("depth", V.int self'.depth), ("chroma", V.int self'.chroma)]) ∧ cW (F_Format_size self' plane') (fun v => ∀ u H' G', Same H H' → Same G G' → Same G' H' → (∀ b, H b ≠ none → G b = none → G' b = none) → Rp G' u ((encT2 PyData.int PyData.int) v) → Q u H') (fun e => ∀ H', Same H H' → E (.ref (excA AD e)) none H')
def sp__sizes (K : PySem.W.Frag) (AD : Ads) : Sp := fun vs H Q E => ∃ (G : Hp) (p_fmt dx_fmt : Addr) (fmt' : St_Format), vs = [.ref p_fmt] ∧ Same G H ∧ (hideL [] H) p_fmt = some (.ins AD.c_Format dx_fmt [("width", V.int fmt'.width), ("height", V.int fmt'.height), ("depth", V.int fmt'.depth), ("chroma", V.int fmt'.chroma)]) ∧ cW (F__sizes fmt') (fun v => ∀ p vs H' G', H p = none → Same H H' → Same G G' → Same G' H' → (∀ b, H b ≠ none → G b = none → G' b = none) → G' p = none → H' p = some (.lst vs) → RpAll G' vs (v.map (encT2 PyData.int PyData.int)) → Q (.ref p) H') (fun e => ∀ H', Same H H' → E (.ref (excA AD e)) none H')
def sp_Format_top (K : PySem.W.Frag) (AD : Ads) : Sp := fun vs H Q E => ∃ (G : Hp) (p_self dx_self : Addr) (self' : St_Format), vs = [.ref p_self] ∧ Same G H ∧ (hideL [] H) p_self = some (.ins AD.c_Format dx_self [("width", V.int self'.width), ("height", V.int self'.height), ("depth", V.int self'.depth), ("chroma", V.int self'.chroma)]) ∧ cW (F_Format_top self') (fun v => ∀ H', Same H H' → Q (.int v) H') (fun e => ∀ H', Same H H' → E (.ref (excA AD e)) none H')
def sp_check_frame (K : PySem.W.Frag) (AD : Ads) : Sp := fun vs H Q E => ∃ (G : Hp) (p_fmt dx_fmt : Addr) (fmt' : St_Format) (v_frame : V) (frame' : (List (List (List Int)))), vs = [.ref p_fmt, v_frame] ∧ Same G H ∧ (hideL [] H) p_fmt = some (.ins AD.c_Format dx_fmt [("width", V.int fmt'.width), ("height", V.int fmt'.height), ("depth", V.int fmt'.depth), ("chroma", V.int fmt'.chroma)]) ∧ Rp (hideL [] H) v_frame ((encL (encL (encL PyData.int))) frame') ∧ cW (F_check_frame fmt' frame') (fun v => ∀ H', Same H H' → Q .non H') (fun e => ∀ H', Same H H' → E (.ref (excA AD e)) none H')
def sp__pad_plane (K : PySem.W.Frag) (AD : Ads) : Sp := fun vs H Q E => ∃ (G : Hp) (v_plane : V) (plane' : (List (List Int))) (v_size : V) (size' : (Int × Int)), vs = [v_plane, v_size] ∧ Same G H ∧ Rp (hideL [] H) v_plane ((encL (encL PyData.int)) plane') ∧ Rp (hideL [] H) v_size ((encT2 PyData.int PyData.int) size') ∧ cW (F__pad_plane plane' size') (fun v => ∀ (H' : Hp) (a : Addr) (vs : List V) (L : List Addr) (G' : Hp), H a = none → (∀ b ∈ L, H b = none) → (∀ b ∈ L, b ≠ a) → Same H H' → Same G G' → Same G' H' → (∀ b, H b ≠ none → G b = none → G' b = none) → G' a = none → (∀ b ∈ L, G' b = none) → H' a = some (.lst vs) → OwAll G' H' L vs ((v : (List (List Int))).map (oL oI)) → Q (.ref a) H') (fun e => ∀ H', Same H H' → E (.ref (excA AD e)) none H')
def sp_Format_blocks (K : PySem.W.Frag) (AD : Ads) : Sp := fun vs H Q E => ∃ (G : Hp) (p_self dx_self : Addr) (self' : St_Format), vs = [.ref p_self] ∧ Same G H ∧ (hideL [] H) p_self = some (.ins AD.c_Format dx_self [("width", V.int self'.width), ("height", V.int self'.height), ("depth", V.int self'.depth), ("chroma", V.int self'.chroma)]) ∧ cW (F_Format_blocks self') (fun v => ∀ u H' G', Same H H' → Same G G' → Same G' H' → (∀ b, H b ≠ none → G b = none → G' b = none) → Rp G' u ((encT2 PyData.int PyData.int) v) → Q u H') (fun e => ∀ H', Same H H' → E (.ref (excA AD e)) none H')
def sp_Format_coded_size (K : PySem.W.Frag) (AD : Ads) : Sp := fun vs H Q E => ∃ (G : Hp) (p_self dx_self : Addr) (self' : St_Format) (plane' : Int), vs = [.ref p_self, .int plane'] ∧ Same G H ∧ (hideL [] H) p_self = some (.ins AD.c_Format dx_self [("width", V.int self'.width), ("height", V.int self'.height), ("depth", V.int self'.depth), ("chroma", V.int self'.chroma)]) ∧ cW (F_Format_coded_size self' plane') (fun v => ∀ u H' G', Same H H' → Same G G' → Same G' H' → (∀ b, H b ≠ none → G b = none → G' b = none) → Rp G' u ((encT2 PyData.int PyData.int) v) → Q u H') (fun e => ∀ H', Same H H' → E (.ref (excA AD e)) none H')
def sp__coded_sizes (K : PySem.W.Frag) (AD : Ads) : Sp := fun vs H Q E => ∃ (G : Hp) (p_fmt dx_fmt : Addr) (fmt' : St_Format), vs = [.ref p_fmt] ∧ Same G H ∧ (hideL [] H) p_fmt = some (.ins AD.c_Format dx_fmt [("width", V.int fmt'.width), ("height", V.int fmt'.height), ("depth", V.int fmt'.depth), ("chroma", V.int fmt'.chroma)]) ∧ cW (F__coded_sizes fmt') (fun v => ∀ p vs H' G', H p = none → Same H H' → Same G G' → Same G' H' → (∀ b, H b ≠ none → G b = none → G' b = none) → G' p = none → H' p = some (.lst vs) → RpAll G' vs (v.map (encT2 PyData.int PyData.int)) → Q (.ref p) H') (fun e => ∀ H', Same H H' → E (.ref (excA AD e)) none H')
def sp_pad_frame (K : PySem.W.Frag) (AD : Ads) : Sp := fun vs H Q E => ∃ (G : Hp) (p_fmt dx_fmt : Addr) (fmt' : St_Format) (v_frame : V) (frame' : (List (List (List Int)))), vs = [.ref p_fmt, v_frame] ∧ Same G H ∧ (hideL [] H) p_fmt = some (.ins AD.c_Format dx_fmt [("width", V.int fmt'.width), ("height", V.int fmt'.height), ("depth", V.int fmt'.depth), ("chroma", V.int fmt'.chroma)]) ∧ Rp (hideL [] H) v_frame ((encL (encL (encL PyData.int))) frame') ∧ cW (F_pad_frame fmt' frame') (fun v => ∀ (H' : Hp) (a : Addr) (vs : List V) (L : List Addr) (G' : Hp), H a = none → (∀ b ∈ L, H b = none) → (∀ b ∈ L, b ≠ a) → Same H H' → Same G G' → Same G' H' → (∀ b, H b ≠ none → G b = none → G' b = none) → G' a = none → (∀ b ∈ L, G' b = none) → H' a = some (.lst vs) → OwAll G' H' L vs ((v : (List (List (List Int)))).map (oL (oL oI))) → Q (.ref a) H') (fun e => ∀ H', Same H H' → E (.ref (excA AD e)) none H')
def sp__crop_plane (K : PySem.W.Frag) (AD : Ads) : Sp := fun vs H Q E => ∃ (G : Hp) (v_plane : V) (plane' : (List (List Int))) (v_size : V) (size' : (Int × Int)), vs = [v_plane, v_size] ∧ Same G H ∧ Rp (hideL [] H) v_plane ((encL (encL PyData.int)) plane') ∧ Rp (hideL [] H) v_size ((encT2 PyData.int PyData.int) size') ∧ cW (F__crop_plane plane' size') (fun v => ∀ (H' : Hp) (a : Addr) (vs : List V) (L : List Addr) (G' : Hp), H a = none → (∀ b ∈ L, H b = none) → (∀ b ∈ L, b ≠ a) → Same H H' → Same G G' → Same G' H' → (∀ b, H b ≠ none → G b = none → G' b = none) → G' a = none → (∀ b ∈ L, G' b = none) → H' a = some (.lst vs) → OwAll G' H' L vs ((v : (List (List Int))).map (oL oI)) → Q (.ref a) H') (fun e => ∀ H', Same H H' → E (.ref (excA AD e)) none H')
def sp_crop_planes (K : PySem.W.Frag) (AD : Ads) : Sp := fun vs H Q E => ∃ (G : Hp) (p_fmt dx_fmt : Addr) (fmt' : St_Format) (v_planes : V) (planes' : (List (List (List Int)))), vs = [.ref p_fmt, v_planes] ∧ Same G H ∧ (hideL [] H) p_fmt = some (.ins AD.c_Format dx_fmt [("width", V.int fmt'.width), ("height", V.int fmt'.height), ("depth", V.int fmt'.depth), ("chroma", V.int fmt'.chroma)]) ∧ Rp (hideL [] H) v_planes ((encL (encL (encL PyData.int))) planes') ∧ cW (F_crop_planes fmt' planes') (fun v => ∀ (H' : Hp) (a : Addr) (vs : List V) (L : List Addr) (G' : Hp), H a = none → (∀ b ∈ L, H b = none) → (∀ b ∈ L, b ≠ a) → Same H H' → Same G G' → Same G' H' → (∀ b, H b ≠ none → G b = none → G' b = none) → G' a = none → (∀ b ∈ L, G' b = none) → H' a = some (.lst vs) → OwAll G' H' L vs ((v : (List (List (List Int)))).map (oL (oL oI))) → Q (.ref a) H') (fun e => ∀ H', Same H H' → E (.ref (excA AD e)) none H')
def sp__law_refused (K : PySem.W.Frag) (AD : Ads) : Sp := fun vs H Q E => ∃ (G : Hp) (p_fmt dx_fmt : Addr) (fmt' : St_Format) (v_planes : V) (planes' : (List (List (List Int)))), vs = [.ref p_fmt, v_planes] ∧ Same G H ∧ (hideL [] H) p_fmt = some (.ins AD.c_Format dx_fmt [("width", V.int fmt'.width), ("height", V.int fmt'.height), ("depth", V.int fmt'.depth), ("chroma", V.int fmt'.chroma)]) ∧ Rp (hideL [] H) v_planes ((encL (encL (encL PyData.int))) planes') ∧ cW (F__law_refused fmt' planes') (fun v => ∀ H', Same H H' → Q (.bl v) H') (fun e => ∀ H', Same H H' → E (.ref (excA AD e)) none H')
def sp__law_cell (K : PySem.W.Frag) (AD : Ads) : Sp := fun vs H Q E => ∃ (G : Hp) (a_script : Addr) (script' : List Int) (k' : Int), vs = [.ref a_script, .int k'] ∧ Same G H ∧ SqL K H a_script ((script' : List Int).map V.int) ∧ cW (F__law_cell script' k') (fun v => Q (.int v) H) (fun e => E (.ref (excA AD e)) none H)
def sp__law_size (K : PySem.W.Frag) (AD : Ads) : Sp := fun vs H Q E => ∃ (G : Hp) (width' : Int) (height' : Int) (chroma' : Int) (plane' : Int), vs = [.int width', .int height', .int chroma', .int plane'] ∧ Same G H ∧ cW (F__law_size width' height' chroma' plane') (fun v => ∀ u H' G', Same H H' → Same G G' → Same G' H' → (∀ b, H b ≠ none → G b = none → G' b = none) → Rp G' u ((encT2 PyData.int PyData.int) v) → Q u H') (fun e => ∀ H', Same H H' → E (.ref (excA AD e)) none H')
def sp__law_plane (K : PySem.W.Frag) (AD : Ads) : Sp := fun vs H Q E => ∃ (G : Hp) (cell' : Int) (width' : Int) (height' : Int) (top' : Int), vs = [.int cell', .int width', .int height', .int top'] ∧ Same G H ∧ cW (F__law_plane cell' width' height' top') (fun v => ∀ u H' G', Same H H' → Same G G' → Same G' H' → (∀ b, H b ≠ none → G b = none → G' b = none) → Rp G' u ((encL (encL PyData.int)) v) → Q u H') (fun e => ∀ H', Same H H' → E (.ref (excA AD e)) none H')
def sp__law_padded (K : PySem.W.Frag) (AD : Ads) : Sp := fun vs H Q E => ∃ (G : Hp) (v_plane : V) (plane' : (List (List Int))) (width' : Int) (height' : Int), vs = [v_plane, .int width', .int height'] ∧ Same G H ∧ Rp (hideL [] H) v_plane ((encL (encL PyData.int)) plane') ∧ cW (F__law_padded plane' width' height') (fun v => ∀ u H' G', Same H H' → Same G G' → Same G' H' → (∀ b, H b ≠ none → G b = none → G' b = none) → Rp G' u ((encL (encL PyData.int)) v) → Q u H') (fun e => ∀ H', Same H H' → E (.ref (excA AD e)) none H')
def sp__law_spoilt (K : PySem.W.Frag) (AD : Ads) : Sp := fun vs H Q E => ∃ (G : Hp) (v_planes : V) (planes' : (List (List (List Int)))) (kind' : Int) (plane' : Int) (row' : Int) (sample' : Int), vs = [v_planes, .int kind', .int plane', .int row', .int sample'] ∧ Same G H ∧ Rp (hideL [] H) v_planes ((encL (encL (encL PyData.int))) planes') ∧ cW (F__law_spoilt planes' kind' plane' row' sample') (fun v => ∀ u H' G', Same H H' → Same G G' → Same G' H' → (∀ b, H b ≠ none → G b = none → G' b = none) → Rp G' u ((encL (encL (encL PyData.int))) v) → Q u H') (fun e => ∀ H', Same H H' → E (.ref (excA AD e)) none H')
def sp__law_up (K : PySem.W.Frag) (AD : Ads) : Sp := fun vs H Q E => ∃ (G : Hp) (n' : Int), vs = [.int n'] ∧ Same G H ∧ cW (F__law_up n') (fun v => Q (.int v) H) (fun e => E (.ref (excA AD e)) none H)
def sp_law (K : PySem.W.Frag) (AD : Ads) : Sp := fun vs H Q E => ∃ (a_script : Addr) (script : List Int), vs = [.ref a_script] ∧ SqL K H a_script (script.map V.int) ∧ cW (F_law script) (fun v => v = true) (fun _ => False) ∧ ∀ H', Q (.bl true) H'
section
variable {P : Program} {w : World} {K : PySem.W.Frag} {mg : Str → Option Value} {base : Heap} {AD : Ads}
abbrev N__law_draws : List Str := ["cell", "limits", "found", "rest", "state", "free", "limit"]
theorem sc__law_draws : FnScope N__law_draws ["cell", "limits"] (defScope s__law_draws) := ⟨rfl, rfl, rfl, by decide +kernel, rfl, by decide +kernel, by decide +kernel⟩
theorem ok__law_draws (D : DefX K mg "_law_draws" s__law_draws ["cell", "limits"] pats__law_draws) (T : Txt w K mg AD)  : CalX P w K mg base 1 "_law_draws" (sp__law_draws K AD) pats__law_draws := by
  refine D.ok sc__law_draws (fun vs H Q E h => ?_) (fun f cdv A_ outer s H vs Q E hr h => ?_)
  · obtain ⟨G, cell', a_limits, limits', rfl, _⟩ := h
    rfl
  · obtain ⟨G, cell', a_limits, limits', rfl, sG, q_limits, hw⟩ := h
    refine ⟨_, (pss_cons (ps_set (i := 2) sc__law_draws.nd rfl (Or.inl rfl) (pe_lst pa_nil))
      (pss_cons (ps_set (i := 3) sc__law_draws.nd rfl (Or.inl rfl) (pe_callB call_abs (by rfl) T.b_abs (by decide +kernel) (pa_cons (pe_callTy call_int1 (by rfl) T.b_int (by decide +kernel) (pa_cons (pv 0) pa_nil)) pa_nil)))
      (pss_cons (ps_set (i := 4) sc__law_draws.nd rfl (Or.inl rfl) (pe_op op_mod (pe_callTy call_int1 (by rfl) T.b_int (by decide +kernel) (pa_cons (pv 3) pa_nil)) pe_int))
      (pss_cons (ps_set (i := 5) sc__law_draws.nd rfl (Or.inl rfl) (pe_or (pe_cmp (pc_lt (pv 0) pe_int)) (pe_one (pe_cmp (pc_ge (pv 0) (pe_op op_pow pe_int pe_int))))))
      (pss_cons (ps_for (passes_of rfl) rfl (pi_listK (K := K) (pv 1)) (pg_name (i := 6) sc__law_draws.nd rfl (Or.inl rfl)) (pss_one (ps_if (PW.pt (pw_and (pt_val (pv 5)) (pw_and1 (pt_cmp (pc_gt (pv 3) pe_int))))) (pss_cons (ps_expr (pe_bm PySem.F.plainAttrs_list PySem.F.slot_list_append PySem.F.type_list_append mt_append (pv 2) (pa_cons (pe_op op_mod (pe_callTy call_int1 (by rfl) T.b_int (by decide +kernel) (pa_cons (pv 3) pa_nil)) (pv 6)) pa_nil)))
      (pss_one (ps_set (i := 3) sc__law_draws.nd rfl (Or.inl rfl) (pe_op op_fdivW (pv 3) (pv 6))))) (pss_cons (ps_set (i := 4) sc__law_draws.nd rfl (Or.inl rfl) (pe_op op_mod (pe_callTy call_int1 (by rfl) T.b_int (by decide +kernel) (pa_cons (pe_op op_add (pe_op op_mul (pv 4) pe_int) pe_int) pa_nil)) pe_int))
      (pss_cons (ps_set (i := 4) sc__law_draws.nd rfl (Or.inl rfl) (pe_op op_mod (pe_callTy call_int1 (by rfl) T.b_int (by decide +kernel) (pa_cons (pe_op op_add (pe_op op_mul (pv 4) pe_int) pe_int) pa_nil)) pe_int))
      (pss_one (ps_expr (pe_bm PySem.F.plainAttrs_list PySem.F.slot_list_append PySem.F.type_list_append mt_append (pv 2) (pa_cons (pe_op op_mod (pe_callTy call_int1 (by rfl) T.b_int (by decide +kernel) (pa_cons (pe_op op_fdivW (pv 4) pe_int) pa_nil)) (pv 6)) pa_nil)))))))))
      (pss_one (ps_ret (pv 2)))))))), ?_⟩
    obtain ⟨KK, EE, hK0, hE, hw⟩ := cW_gen hw
    have S0 := Sep.startG sG
    unfold F__law_draws at hw
    refine ⟨(by show 0 ≤ sizeLine; decide), fun p1 n2 => ?_⟩
    generalize g3 : upd H p1 _ = H4
    obtain ⟨e5, h6⟩ := gen_new n2 g3
    have h7 : H4 p1 = some (.lst ((([] : (List Int)) : (List Int)).map V.int)) := h6
    have fr8 := S0.free n2
    have S9 := S0.new n2 e5 h7 fr8
    refine ⟨_, rfl, .inl ⟨_, rfl, ?_⟩⟩
    refine ⟨_, rfl, ?_⟩
    have hw := cW_bnd hw
    refine ⟨_, rfl, .inl ⟨_, rfl, ?_⟩⟩
    refine ⟨_, _, rfl, rfl, (show (0 : Int) < 2147483647 by decide), ?_⟩
    have hw := cW_bnd hw
    refine vv_or (ta := (tLt (tVar 0) (tC (V.int 0)))) (tb := (tGe (tVar 0) (tOp (rI CPow fun i j => V.int (i ^ j.toNat)) (tC (V.int 10)) (tC (V.int 18))))) (a := decide (cell' < 0)) (b := decide (((10 : Int) ^ Int.toNat 18) ≤ cell')) ?ha12 ?hb13 _ ?_
    case ha12 => exact (vv_cmp (val_var rfl) val_c (fun Q q => ⟨_, _, rfl, rfl, q⟩))
    case hb13 => exact (vv_cmp (val_var rfl) (val_op val_c val_c (fun Q q => ⟨_, _, rfl, rfl, ⟨by decide, by decide, by decide⟩, q⟩)) (fun Q q => ⟨_, _, rfl, rfl, q⟩))
    have hw := cW_bnd hw
    obtain ⟨K16, hK17, hw⟩ := cW_push hw
    refine ⟨_, rfl, _, rfl, ⟨_, (SqL.of (S9.bM _ _ q_limits))⟩, for_list (K := K) (a := a_limits) (xs := (limits' : List Int).map V.int) (fun i σ H' => ∃ (found_18 : (List Int)) (rest_19 : Int) (state_20 : Int) (u21 : Option V) (G' : Hp), σ = [some (V.int (cell')), some (V.ref a_limits), some (V.ref p1), some (V.int rest_19), some (V.int state_20), some (V.bl ((decide (cell' < 0) || decide (((10 : Int) ^ Int.toNat 18) ≤ cell')))), u21] ∧ Same G G' ∧ Sep [] H G G' H' [p1] ∧ H' p1 = some (.lst ((found_18 : (List Int)).map V.int)) ∧ cW (forS (List.drop i (limits')) (found_18, rest_19, state_20) (fun s x => F__law_draws_b1 ((decide (cell' < 0) || decide (((10 : Int) ^ Int.toNat 18) ≤ cell'))) (s.1) (s.2.1) (s.2.2) x)) K16 EE) ?_ ?_ ?_ ?_⟩
    · exact ⟨(([] : (List Int))), ((if cell' < 0 then -cell' else cell')), (((if cell' < 0 then -cell' else cell') % 2147483647)), _, _, rfl, (Same.refl _), S9, h7, hw⟩
    · intro i σ H22 _ hw
      obtain ⟨found_18, rest_19, state_20, u21, G25, rfl, eG26, S23, h24, hw⟩ := hw
      exact (SqL.of (S23.bM _ _ q_limits))
    · intro i x σ H27 hj hw
      obtain ⟨found_18, rest_19, state_20, u21, G30, rfl, eG31, S28, h29, hw⟩ := hw
      obtain ⟨x32, hx, rfl⟩ := map_get hj
      have hw := cW_forS hx hw
      have hw : cW (F__law_draws_b1 ((decide (cell' < 0) || decide (((10 : Int) ^ Int.toNat 18) ≤ cell'))) (found_18) (rest_19) (state_20) (x32)) _ EE := hw
      unfold F__law_draws_b1 at hw
      obtain ⟨K36, hK37, hw⟩ := cW_name hw
      refine ⟨_, rfl, _, rfl, ?_⟩
      refine iteB (fun c39 => ?_) (fun c39 => ?_)
      · have hw := cW_pos c39 hw
        refine ⟨_, rfl, _, _, rfl, rfl, _, rfl, ?_⟩
        refine iteD (fun c40 => ?_) (fun c40 => ?_)
        · have hw := cW_pos c40 hw
          refine ⟨_, rfl, (.inl ⟨rfl, _, SqL.of h29⟩), _, rfl, .inl ⟨_, rfl, ?_⟩⟩
          obtain ⟨g41, hw⟩ := cW_grd hw
          obtain ⟨g42, hw⟩ := cW_grd hw
          refine ⟨_, rfl, _, _, rfl, rfl, g41, _, _, _, rfl, rfl, h29, (app_lenM g42), ?_⟩
          generalize g43 : upd H27 p1 _ = H44
          obtain ⟨x45, h46⟩ := gen_mut g43
          have h47 : H44 p1 = some (.lst (((found_18) ++ [(rest_19 % x32)] : (List Int)).map V.int)) := snoc_map h46
          have S48 := S28.mut1 x45 (.head _) h47
          have hw := cW_bnd hw
          obtain ⟨g50, hw⟩ := cW_grd hw
          refine ⟨_, rfl, _, rfl, _, _, rfl, rfl, (divW_small g50.1 g50.2), ?_⟩
          have hw := cW_bnd hw
          have hw := cW_ok hw
          have hw := hK37 _ hw
          exact ⟨((found_18) ++ [(rest_19 % x32)]), ((rest_19 / x32)), (state_20), _, _, rfl, eG31, S48, h47, hw⟩
        · have hw := cW_neg c40 hw
          refine ⟨_, rfl, _, _, rfl, rfl, (.inr ⟨by decide, by decide⟩), _, _, rfl, rfl, .inl ⟨_, rfl, ?_⟩⟩
          refine ⟨_, _, rfl, rfl, (show (0 : Int) < 2147483647 by decide), ?_⟩
          have hw := cW_bnd hw
          refine ⟨_, rfl, _, _, rfl, rfl, (.inr ⟨by decide, by decide⟩), _, _, rfl, rfl, .inl ⟨_, rfl, ?_⟩⟩
          refine ⟨_, _, rfl, rfl, (show (0 : Int) < 2147483647 by decide), ?_⟩
          have hw := cW_bnd hw
          refine ⟨_, rfl, (.inl ⟨rfl, _, SqL.of h29⟩), _, rfl, _, _, rfl, rfl, (divW_lit (by decide) (by decide)), .inl ⟨_, rfl, ?_⟩⟩
          obtain ⟨g54, hw⟩ := cW_grd hw
          obtain ⟨g55, hw⟩ := cW_grd hw
          refine ⟨_, rfl, _, _, rfl, rfl, g54, _, _, _, rfl, rfl, h29, (app_lenM g55), ?_⟩
          generalize g56 : upd H27 p1 _ = H57
          obtain ⟨x58, h59⟩ := gen_mut g56
          have h60 : H57 p1 = some (.lst (((found_18) ++ [((((((((state_20 * 48271) + 11) % 2147483647) * 69621) + 7) % 2147483647) / 13) % x32)] : (List Int)).map V.int)) := snoc_map h59
          have S61 := S28.mut1 x58 (.head _) h60
          have hw := cW_bnd hw
          have hw := cW_ok hw
          have hw := hK37 _ hw
          exact ⟨((found_18) ++ [((((((((state_20 * 48271) + 11) % 2147483647) * 69621) + 7) % 2147483647) / 13) % x32)]), (rest_19), (((((((state_20 * 48271) + 11) % 2147483647) * 69621) + 7) % 2147483647)), _, _, rfl, eG31, S61, h60, hw⟩
      · have hw := cW_negB c39 hw
        refine iteF ?_
        refine ⟨_, rfl, _, _, rfl, rfl, (.inr ⟨by decide, by decide⟩), _, _, rfl, rfl, .inl ⟨_, rfl, ?_⟩⟩
        refine ⟨_, _, rfl, rfl, (show (0 : Int) < 2147483647 by decide), ?_⟩
        have hw := cW_bnd hw
        refine ⟨_, rfl, _, _, rfl, rfl, (.inr ⟨by decide, by decide⟩), _, _, rfl, rfl, .inl ⟨_, rfl, ?_⟩⟩
        refine ⟨_, _, rfl, rfl, (show (0 : Int) < 2147483647 by decide), ?_⟩
        have hw := cW_bnd hw
        refine ⟨_, rfl, (.inl ⟨rfl, _, SqL.of h29⟩), _, rfl, _, _, rfl, rfl, (divW_lit (by decide) (by decide)), .inl ⟨_, rfl, ?_⟩⟩
        obtain ⟨g65, hw⟩ := cW_grd hw
        obtain ⟨g66, hw⟩ := cW_grd hw
        refine ⟨_, rfl, _, _, rfl, rfl, g65, _, _, _, rfl, rfl, h29, (app_lenM g66), ?_⟩
        generalize g67 : upd H27 p1 _ = H68
        obtain ⟨x69, h70⟩ := gen_mut g67
        have h71 : H68 p1 = some (.lst (((found_18) ++ [((((((((state_20 * 48271) + 11) % 2147483647) * 69621) + 7) % 2147483647) / 13) % x32)] : (List Int)).map V.int)) := snoc_map h70
        have S72 := S28.mut1 x69 (.head _) h71
        have hw := cW_bnd hw
        have hw := cW_ok hw
        have hw := hK37 _ hw
        exact ⟨((found_18) ++ [((((((((state_20 * 48271) + 11) % 2147483647) * 69621) + 7) % 2147483647) / 13) % x32)]), (rest_19), (((((((state_20 * 48271) + 11) % 2147483647) * 69621) + 7) % 2147483647)), _, _, rfl, eG31, S72, h71, hw⟩
    · intro σ H74 hw
      obtain ⟨found_18, rest_19, state_20, u21, G77, rfl, eG78, S75, h76, hw⟩ := hw
      have hw := hK17 _ (cW_forS0 (by rw [List.length_map]) hw)
      have hw : cW (F__law_draws_r1  (found_18) (rest_19) (state_20)) _ EE := hw
      unfold F__law_draws_r1 at hw
      refine ⟨_, rfl, ?_⟩
      have hw := cW_ok hw
      exact hK0 _ hw _ _ fr8 S75.b0 h76

abbrev N_Format___init__ : List Str := ["self", "width", "height", "depth", "chroma"]
theorem sc_Format___init__ : FnScope N_Format___init__ ["self", "width", "height", "depth", "chroma"] (defScope s_Format___init__) := ⟨rfl, rfl, rfl, by decide +kernel, rfl, by decide +kernel, by decide +kernel⟩
theorem ok_Format___init__ (D : InitX K mg AD.c_Format "Format" "Format.__init__" s_Format___init__ ["self", "width", "height", "depth", "chroma"] pats_Format___init__) (T : Txt w K mg AD)  : MakX P w K mg base 1 "Format" AD.c_Format (sp_Format___init__ K AD) pats_Format___init__ := by
  refine D.ok sc_Format___init__ (fun vs H Q E h => ?_) (fun f cdv A_ outer s H vs Q E hr h => ?_)
  · obtain ⟨G, p_self, dx_self, width', height', depth', chroma', rfl, _⟩ := h
    rfl
  · obtain ⟨G, p_self, dx_self, width', height', depth', chroma', rfl, sG, gM, h_self, hw⟩ := h
    refine ⟨_, (pss_cons (ps_if (pt_not (PW.pt (pw_and (pt_chain op_le op_le pe_int (pv 1) pe_int) (pw_and1 (pt_chain op_le op_le pe_int (pv 2) pe_int))))) (pss_one (ps_raise rfl (takes_of rfl rfl rfl rfl) (pmk_own PySem.F.excBase_ValueError T.xx_BadFormat T.xg_BadFormat T.xk_BadFormat (raises_own T.xb_BadFormat T.xt_BadFormat) rfl))) pss_nil)
      (pss_cons (ps_if (pt_not (pt_chain op_le op_le pe_int (pv 3) pe_int)) (pss_one (ps_raise rfl (takes_of rfl rfl rfl rfl) (pmk_own PySem.F.excBase_ValueError T.xx_BadFormat T.xg_BadFormat T.xk_BadFormat (raises_own T.xb_BadFormat T.xt_BadFormat) rfl))) pss_nil)
      (pss_cons (ps_if (pt_not (pt_chain op_le op_le pe_int (pv 4) pe_int)) (pss_one (ps_raise rfl (takes_of rfl rfl rfl rfl) (pmk_own PySem.F.excBase_ValueError T.xx_BadFormat T.xg_BadFormat T.xk_BadFormat (raises_own T.xb_BadFormat T.xt_BadFormat) rfl))) pss_nil)
      (pss_cons (ps_fld (pv 0) (pv 1) rfl)
      (pss_cons (ps_fld (pv 0) (pv 2) rfl)
      (pss_cons (ps_fld (pv 0) (pv 3) rfl)
      (pss_one (ps_fld (pv 0) (pv 4) rfl)))))))), ?_⟩
    obtain ⟨KK, EE, hK0, hE, hw⟩ := cW_gen hw
    have S0 := Sep.startM (M := [p_self]) sG (all_cons (some_ne h_self) all_nil) gM
    unfold F_Format___init__ at hw
    refine ⟨_, rfl, _, _, rfl, rfl, _, rfl, ?_⟩
    refine iteD (fun c82 => ?_) (fun c82 => ?_)
    · have hw := cW_pos c82 hw
      refine ⟨_, _, rfl, rfl, _, rfl, ?_⟩
      refine iteD (fun c83 => ?_) (fun c83 => ?_)
      · have hw := cW_pos c83 hw
        refine ⟨_, rfl, _, _, rfl, rfl, _, rfl, ?_⟩
        refine iteD (fun c84 => ?_) (fun c84 => ?_)
        · have hw := cW_pos c84 hw
          refine ⟨_, _, rfl, rfl, _, rfl, ?_⟩
          refine iteN (fun c85 => ?_) (fun c85 => ?_)
          · have hw := cW_neg c85 hw
            exact hE 1 (cW_er hw) _ (sameX_of S0.base)
          · have hw := cW_pos c85 hw
            refine ⟨_, rfl, _, _, rfl, rfl, _, rfl, ?_⟩
            refine iteD (fun c86 => ?_) (fun c86 => ?_)
            · have hw := cW_pos c86 hw
              refine ⟨_, _, rfl, rfl, _, rfl, ?_⟩
              refine iteN (fun c87 => ?_) (fun c87 => ?_)
              · have hw := cW_neg c87 hw
                exact hE 1 (cW_er hw) _ (sameX_of S0.base)
              · have hw := cW_pos c87 hw
                refine ⟨_, rfl, _, _, rfl, rfl, _, rfl, ?_⟩
                refine iteD (fun c88 => ?_) (fun c88 => ?_)
                · have hw := cW_pos c88 hw
                  refine ⟨_, _, rfl, rfl, _, rfl, ?_⟩
                  refine iteN (fun c89 => ?_) (fun c89 => ?_)
                  · have hw := cW_neg c89 hw
                    exact hE 1 (cW_er hw) _ (sameX_of S0.base)
                  · have hw := cW_pos c89 hw
                    refine ⟨_, rfl, _, rfl, _, _, _, _, rfl, h_self, T.cl_Format, T.n_Format_width, (by show 0 < 1000; decide), ?_⟩
                    generalize g90 : upd H p_self _ = H91
                    obtain ⟨x92, h93⟩ := gen_mut g90
                    have h94 : H91 p_self = some (.ins AD.c_Format dx_self [("width", V.int (width'))]) := h93
                    have S95 := S0.mut1 x92 (.head _) h94
                    refine ⟨_, rfl, _, rfl, _, _, _, _, rfl, h94, T.cl_Format, T.n_Format_height, (by show 1 < 1000; decide), ?_⟩
                    generalize g96 : upd H91 p_self _ = H97
                    obtain ⟨x98, h99⟩ := gen_mut g96
                    have h100 : H97 p_self = some (.ins AD.c_Format dx_self [("width", V.int (width')), ("height", V.int (height'))]) := h99
                    have S101 := S95.mut1 x98 (.head _) h100
                    refine ⟨_, rfl, _, rfl, _, _, _, _, rfl, h100, T.cl_Format, T.n_Format_depth, (by show 2 < 1000; decide), ?_⟩
                    generalize g102 : upd H97 p_self _ = H103
                    obtain ⟨x104, h105⟩ := gen_mut g102
                    have h106 : H103 p_self = some (.ins AD.c_Format dx_self [("width", V.int (width')), ("height", V.int (height')), ("depth", V.int (depth'))]) := h105
                    have S107 := S101.mut1 x104 (.head _) h106
                    refine ⟨_, rfl, _, rfl, _, _, _, _, rfl, h106, T.cl_Format, T.n_Format_chroma, (by show 3 < 1000; decide), ?_⟩
                    generalize g108 : upd H103 p_self _ = H109
                    obtain ⟨x110, h111⟩ := gen_mut g108
                    have h112 : H109 p_self = some (.ins AD.c_Format dx_self [("width", V.int (width')), ("height", V.int (height')), ("depth", V.int (depth')), ("chroma", V.int (chroma'))]) := h111
                    have S113 := S107.mut1 x110 (.head _) h112
                    have hw := cW_ok hw
                    exact hK0 _ hw _ (sameX_of S113.base) h112
                · have hw := cW_neg c88 hw
                  refine ⟨_, rfl, ?_⟩
                  refine iteT ?_
                  exact hE 1 (cW_er hw) _ (sameX_of S0.base)
            · have hw := cW_neg c86 hw
              refine ⟨_, rfl, ?_⟩
              refine iteT ?_
              exact hE 1 (cW_er hw) _ (sameX_of S0.base)
        · have hw := cW_neg c84 hw
          refine ⟨_, rfl, ?_⟩
          refine iteT ?_
          exact hE 1 (cW_er hw) _ (sameX_of S0.base)
      · have hw := cW_neg c83 hw
        refine iteT ?_
        exact hE 1 (cW_er hw) _ (sameX_of S0.base)
    · have hw := cW_neg c82 hw
      refine ⟨_, rfl, ?_⟩
      refine iteF ?_
      refine iteT ?_
      exact hE 1 (cW_er hw) _ (sameX_of S0.base)

abbrev N__law_copy : List Str := ["planes", "plane", "row"]
theorem sc__law_copy : FnScope N__law_copy ["planes"] (defScope s__law_copy) := ⟨rfl, rfl, rfl, by decide +kernel, rfl, by decide +kernel, by decide +kernel⟩
theorem ok__law_copy (D : DefX K mg "_law_copy" s__law_copy ["planes"] pats__law_copy) (T : Txt w K mg AD)  : CalX P w K mg base 1 "_law_copy" (sp__law_copy K AD) pats__law_copy := by
  refine D.ok sc__law_copy (fun vs H Q E h => ?_) (fun f cdv A_ outer s H vs Q E hr h => ?_)
  · obtain ⟨G, v_planes, planes', rfl, _⟩ := h
    rfl
  · obtain ⟨G, v_planes, planes', rfl, sG, r_planes, hw⟩ := h
    refine ⟨_, (pss_one (ps_ret (pe_lc (own := [("plane", 1)]) (g := gName 1) (by rfl) sc__law_copy.nd (pi_listK (K := K) (pv 0)) (blkOk_by (own := [("plane", 1)]) (N := N__law_copy) (sc := defScope s__law_copy) (by decide +kernel)) (fun _ _ _ _ _ => (pg_name (i := 1) sc__law_copy.nd rfl (Or.inl rfl))) (fun _ _ _ _ _ => pts_nil) (fun _ _ _ _ _ => (pe_lc (own := [("row", 2)]) (g := gName 2) (by rfl) sc__law_copy.nd (pi_listK (K := K) (pv 1)) (blk_relabel (blkOk_by (own := [("row", 2)]) (N := N__law_copy) (by decide +kernel))) (fun _ _ _ _ _ => (pg_name (i := 2) sc__law_copy.nd rfl (Or.inl rfl))) (fun _ _ _ _ _ => pts_nil) (fun _ _ _ _ _ => (pe_callTy (call_listLK (K := K)) (by rfl) T.b_list (by decide +kernel) (pa_cons (pv 2) pa_nil)))))))), ?_⟩
    obtain ⟨KK, EE, hK0, hE, hw⟩ := cW_gen hw
    have S0 := Sep.startG sG
    unfold F__law_copy at hw
    obtain ⟨a114, vs115, rfl, h116, d117⟩ := rp_list r_planes
    obtain ⟨K119, hK120, hw⟩ := cW_push hw
    refine ⟨_, rfl, _, rfl, ⟨_, (SqL.of (S0.bM _ _ h116))⟩, fun D121 n122 => lc_list (K := K) (a := a114) (xs := vs115) (fun i H' => ∃ (G' : Hp) (acc124 : (List (List (List Int)))) (vs125 : List V) (L123 : List Addr), Same G G' ∧ Sep [] H G G' H' (D121 :: (L123 ++ [])) ∧ H' D121 = some (.lst vs125) ∧ OwAll G' H' L123 vs125 ((acc124 : (List (List (List Int)))).map (oL (oL oI))) ∧ (∀ b ∈ L123, H b = none) ∧ (∀ b ∈ L123, b ≠ D121) ∧ Same H H' ∧ cW (mapA (List.drop i (planes')) acc124 (fun x => noEr (F__law_copy_c1  x))) K119 EE) ?_ ?_ ?_ ?_⟩
    · generalize g126 : upd H D121 _ = H127
      obtain ⟨e128, h129⟩ := gen_new n122 g126
      have fr130 := S0.free n122
      have S131 := S0.new n122 e128 h129 fr130
      exact ⟨_, [], [], [], Same.refl _, (S131.sub (all_cons (.head _) (all_app (L := []) all_nil all_nil))), h129, OwAll.nil, all_nil, all_nil, e128, hw⟩
    · intro i H132 _ hw
      obtain ⟨G135, acc137, vs138, L140, eG136, S133, h134, d139, nb141, nd142, eo143, hw⟩ := hw
      exact (SqL.of (S133.bM _ _ h116))
    · intro i x H144 hj hw
      obtain ⟨G147, acc149, vs150, L152, eG148, S145, h146, d151, nb153, nd154, eo155, hw⟩ := hw
      obtain ⟨x156, hx, r157⟩ := RpAll.get d117 hj
      obtain ⟨a158, vs159, rfl, h160, d161⟩ := rp_list r157
      obtain ⟨z162, hw⟩ := cW_mapA hx hw
      have hw := cW_noEr hw
      have hw : cW (F__law_copy_c1  (x156)) _ (fun _ => False) := hw
      unfold F__law_copy_c1 at hw
      refine ⟨rfl, ?_⟩
      refine tyes_go ?_
      obtain ⟨K165, hK166, hw⟩ := cW_push hw
      refine ⟨_, rfl, _, rfl, ⟨_, (SqL.of (S145.bM _ _ h160))⟩, fun D167 n168 => lc_list (K := K) (a := a158) (xs := vs159) (fun i2 H' => ∃ (G' : Hp) (acc170 : (List (List Int))) (vs171 : List V) (L169 : List Addr), Same G147 G' ∧ Sep [] H G G' H' (D167 :: (L169 ++ (D121 :: (L152 ++ [])))) ∧ H' D121 = some (.lst (vs150)) ∧ H' D167 = some (.lst vs171) ∧ OwAll G' H' L152 (vs150) ((acc149 : (List (List (List Int)))).map (oL (oL oI))) ∧ OwAll G' H' L169 vs171 ((acc170 : (List (List Int))).map (oL oI)) ∧ (∀ b ∈ L169, H144 b = none) ∧ (∀ b ∈ L169, b ≠ D167) ∧ Same H144 H' ∧ cW (mapA (List.drop i2 (x156)) acc170 (fun x => noEr (F__law_copy_c2  x))) K165 (fun _ => False)) ?_ ?_ ?_ ?_⟩
      · generalize g172 : upd H144 D167 _ = H173
        obtain ⟨e174, h175⟩ := gen_new n168 g172
        have fr176 := S145.free n168
        have S177 := S145.new n168 e174 h175 fr176
        have h178 := (e174 _ _ h146)
        have w179 : OwAll G147 H173 L152 (vs150) ((acc149 : (List (List (List Int)))).map (oL (oL oI))) := (OwAll.mono (Same.refl _) (keeps_same e174) d151)
        exact ⟨_, [], [], [], Same.refl _, (S177.sub (all_cons (.head _) (all_app (L := []) all_nil (all_cons (.tail _ (.head _)) (all_app ((fun b hb => (.tail _ (.tail _ (List.mem_append_left _ hb)))) : ∀ b ∈ L152, b ∈ (D167 :: (D121 :: (L152 ++ [])))) all_nil))))), h178, h175, w179, OwAll.nil, all_nil, all_nil, e174, hw⟩
      · intro i2 H180 _ hw
        obtain ⟨G183, acc185, vs186, L188, eG184, S181, h192, h182, w193, d187, nb189, nd190, eo191, hw⟩ := hw
        exact (SqL.of (S181.bM _ _ h160))
      · intro i2 x H194 hj hw
        obtain ⟨G197, acc199, vs200, L202, eG198, S195, h206, h196, w207, d201, nb203, nd204, eo205, hw⟩ := hw
        obtain ⟨x208, hx, r209⟩ := RpAll.get d161 hj
        obtain ⟨a210, rfl, h211⟩ := rp_ints r209
        obtain ⟨z212, hw⟩ := cW_mapA hx hw
        have hw := cW_noEr hw
        have hw : cW (F__law_copy_c2  (x208)) _ (fun _ => False) := hw
        unfold F__law_copy_c2 at hw
        refine ⟨rfl, ?_⟩
        refine tyes_go ?_
        refine ⟨_, rfl, _, _, rfl, (SqL.of (S195.bM _ _ h211)), fun p214 n215 => ?_⟩
        generalize g216 : upd H194 p214 _ = H217
        obtain ⟨e218, h219⟩ := gen_new n215 g216
        have h220 : H217 p214 = some (.lst ((x208 : (List Int)).map V.int)) := h219
        have fr221 := S195.free n215
        have S222 := S195.new n215 e218 h220 fr221
        have w223 : OwAll G197 H217 L202 (vs200) ((acc199 : (List (List Int))).map (oL oI)) := (OwAll.mono (Same.refl _) (keeps_same e218) d201)
        have h224 := (e218 _ _ h196)
        refine ⟨_, h224, (app_len (OwAll.rpA w223 (encO_L encO_I) S222.sG) z212), ?_⟩
        generalize g225 : upd H217 D167 _ = H226
        obtain ⟨x227, h228⟩ := gen_mut g225
        have S229 := S222.mut1 x227 (.tail _ (.head _)) h228
        have hw := cW_ok hw
        have h230 := (x227 _ _ (e218 _ _ h206) (ne_of_none h146 n168))
        have w231 : OwAll G197 H226 L152 (vs150) ((acc149 : (List (List (List Int)))).map (oL (oL oI))) := (OwAll.mono (Same.refl _) (keeps_mut x227 ((there_ne (fun b_ hb_ => (S145.ow b_ (((fun b hb => (.tail _ (List.mem_append_left _ hb))) : ∀ b ∈ L152, b ∈ (D121 :: (L152 ++ []))) b_ hb_)).2.1) n168) : ∀ b ∈ L152, b ≠ D167)) (OwAll.mono (Same.refl _) (keeps_same e218) w207))
        exact ⟨_, (acc199 ++ [x208]), _, (L202 ++ (p214 :: ([] : List Addr))), eG198, (S229.sub (all_cons (.tail _ (.head _)) (all_app (all_app ((fun b hb => (.tail _ (.tail _ (List.mem_append_left _ hb)))) : ∀ b ∈ L202, b ∈ (p214 :: (D167 :: (L202 ++ (D121 :: (L152 ++ [])))))) (all_cons (.head _) all_nil)) (all_cons (.tail _ (.tail _ (List.mem_append_right _ (.head _)))) (all_app ((fun b hb => (.tail _ (.tail _ (List.mem_append_right _ (.tail _ (List.mem_append_left _ hb)))))) : ∀ b ∈ L152, b ∈ (p214 :: (D167 :: (L202 ++ (D121 :: (L152 ++ [])))))) all_nil))))), h230, h228, w231, (OwAll.mono (Same.refl _) (keeps_mut x227 ((all_app nd204 (all_cons (ne_of_none h196 n215).symm all_nil)) : ∀ b ∈ (L202 ++ (p214 :: ([] : List Addr))), b ≠ D167)) (OwAll.snocM w223 (Ow.ints h220) ((fun b hb => (nm_cons ((there_ne (fun b_ hb_ => (S195.ow b_ (((fun b hb => (.tail _ (List.mem_append_left _ hb))) : ∀ b ∈ L202, b ∈ (D167 :: (L202 ++ (D121 :: (L152 ++ []))))) b_ hb_)).2.1) n215) b hb) nm_nil)) : ∀ b ∈ L202, b ∉ (p214 :: ([] : List Addr))))), ((all_app nb203 (all_cons (none_of_same eo205 n215) all_nil)) : ∀ b ∈ (L202 ++ (p214 :: ([] : List Addr))), H144 b = none), ((all_app nd204 (all_cons (ne_of_none h196 n215).symm all_nil)) : ∀ b ∈ (L202 ++ (p214 :: ([] : List Addr))), b ≠ D167), (same_mut (Same.trans eo205 e218) x227 n168), hw⟩
      intro H232 hw
      obtain ⟨G235, acc237, vs238, L240, eG236, S233, h244, h234, w245, d239, nb241, nd242, eo243, hw⟩ := hw
      have hw := hK166 _ (cW_mapA0 (by rw [d161.len, List.length_map]) hw)
      have fr246 := S145.free n168
      refine ⟨_, h244, (app_len (OwAll.rpA w245 (encO_L (encO_L encO_I)) S233.sG) z162), ?_⟩
      generalize g247 : upd H232 D121 _ = H248
      obtain ⟨x249, h250⟩ := gen_mut g247
      have S251 := S233.mut1 x249 (.tail _ (List.mem_append_right _ (.head _))) h250
      have hw := cW_ok hw
      exact ⟨_, (acc149 ++ [acc237]), _, (L152 ++ (D167 :: L240)), (Same.trans eG148 eG236), (S251.sub (all_cons (.tail _ (List.mem_append_right _ (.head _))) (all_app (all_app ((fun b hb => (.tail _ (List.mem_append_right _ (.tail _ (List.mem_append_left _ hb))))) : ∀ b ∈ L152, b ∈ (D167 :: (L240 ++ (D121 :: (L152 ++ []))))) (all_cons (.head _) ((fun b hb => (.tail _ (List.mem_append_left _ hb))) : ∀ b ∈ L240, b ∈ (D167 :: (L240 ++ (D121 :: (L152 ++ []))))))) all_nil))), h250, (OwAll.mono (Same.refl _) (keeps_mut x249 ((all_app nd154 (all_cons (ne_of_none h146 n168).symm (new_ne2 nb241 (S145.ow _ (.head _)).2.1))) : ∀ b ∈ (L152 ++ (D167 :: L240)), b ≠ D121)) (OwAll.snocM w245 (Ow.list h234 d239 (nd242 : ∀ b ∈ L240, b ≠ D167)) ((fun b hb => (nm_cons ((there_ne (fun b_ hb_ => (S145.ow b_ (((fun b hb => (.tail _ (List.mem_append_left _ hb))) : ∀ b ∈ L152, b ∈ (D121 :: (L152 ++ []))) b_ hb_)).2.1) n168) b hb) ((nl_symm (new_nl nb241 (fun b_ hb_ => (S145.ow b_ (((fun b hb => (.tail _ (List.mem_append_left _ hb))) : ∀ b ∈ L152, b ∈ (D121 :: (L152 ++ []))) b_ hb_)).2.1))) b hb))) : ∀ b ∈ L152, b ∉ (D167 :: L240)))), ((all_app nb153 (all_cons (none_of_same eo155 n168) (fun b hb => none_of_same eo155 (nb241 b hb)))) : ∀ b ∈ (L152 ++ (D167 :: L240)), H b = none), ((all_app nd154 (all_cons (ne_of_none h146 n168).symm (new_ne2 nb241 (S145.ow _ (.head _)).2.1))) : ∀ b ∈ (L152 ++ (D167 :: L240)), b ≠ D121), (same_mut (Same.trans eo155 eo243) x249 n122), hw⟩
    intro H252 hw
    obtain ⟨G255, acc257, vs258, L260, eG256, S253, h254, d259, nb261, nd262, eo263, hw⟩ := hw
    have hw := hK120 _ (cW_mapA0 (by rw [d117.len, List.length_map]) hw)
    have fr264 := S0.free n122
    have hw := cW_ok hw
    exact hK0 _ hw _ _ _ _ _ fr264 ((fun b hb => Sep.h0 S253 (((fun b hb => (.tail _ (List.mem_append_left _ hb))) : ∀ b ∈ L260, b ∈ (D121 :: (L260 ++ []))) b hb) nm_nil) : ∀ b ∈ L260, H b = none) (nd262 : ∀ b ∈ L260, b ≠ D121) S253.b0 S253.g0 S253.sG S253.gn (S253.ow _ (.head _)).1 ((fun b hb => (S253.ow b (((fun b hb => (.tail _ (List.mem_append_left _ hb))) : ∀ b ∈ L260, b ∈ (D121 :: (L260 ++ []))) b hb)).1) : ∀ b ∈ L260, G255 b = none) h254 d259

abbrev N__check_shape : List Str := ["planes", "sizes", "plane", "width", "height", "row"]
theorem sc__check_shape : FnScope N__check_shape ["planes", "sizes"] (defScope s__check_shape) := ⟨rfl, rfl, rfl, by decide +kernel, rfl, by decide +kernel, by decide +kernel⟩
theorem ok__check_shape (D : DefX K mg "_check_shape" s__check_shape ["planes", "sizes"] pats__check_shape) (T : Txt w K mg AD)  : CalX P w K mg base 1 "_check_shape" (sp__check_shape K AD) pats__check_shape := by
  refine D.ok sc__check_shape (fun vs H Q E h => ?_) (fun f cdv A_ outer s H vs Q E hr h => ?_)
  · obtain ⟨G, v_planes, planes', v_sizes, sizes', rfl, _⟩ := h
    rfl
  · obtain ⟨G, v_planes, planes', v_sizes, sizes', rfl, sG, r_planes, r_sizes, hw⟩ := h
    refine ⟨_, (pss_cons (ps_if (pt_cmp (pc_neI (pe_callB (call_lenLK (K := K)) (by rfl) T.b_len (by decide +kernel) (pa_cons (pv 0) pa_nil)) (pe_callB (call_lenLK (K := K)) (by rfl) T.b_len (by decide +kernel) (pa_cons (pv 1) pa_nil)))) (pss_one (ps_raise rfl (takes_of rfl rfl rfl rfl) (pmk_own PySem.F.excBase_ValueError T.xx_BadFrame T.xg_BadFrame T.xk_BadFrame (raises_own T.xb_BadFrame T.xt_BadFrame) rfl))) pss_nil)
      (pss_one (ps_for (passes_of rfl) rfl (pi_zipK (K := K) rfl T.b_zip (pa_cons (pv 0) (pa_cons (pv 1) pa_nil))) (pg_tupK (K := K) (n := 2) (pgs_cons (pg_name (i := 2) sc__check_shape.nd rfl (Or.inl rfl)) (pgs_cons (pg_tupK (K := K) (n := 2) (pgs_cons (pg_name (i := 3) sc__check_shape.nd rfl (Or.inr rfl)) (pgs_cons (pg_name (i := 4) sc__check_shape.nd rfl (Or.inl rfl)) pgs_nil))) pgs_nil))) (pss_cons (ps_if (pt_cmp (pc_neI (pe_callB (call_lenLK (K := K)) (by rfl) T.b_len (by decide +kernel) (pa_cons (pv 2) pa_nil)) (pv 4))) (pss_one (ps_raise rfl (takes_of rfl rfl rfl rfl) (pmk_own PySem.F.excBase_ValueError T.xx_BadFrame T.xg_BadFrame T.xk_BadFrame (raises_own T.xb_BadFrame T.xt_BadFrame) rfl))) pss_nil)
      (pss_one (ps_if (pt_val (pe_callB (cr_anyK (K := K) rfl) (by rfl) T.b_any (by decide +kernel) (pa_cons (pe_lc (own := [("row", 5)]) (g := gName 5) (by rfl) sc__check_shape.nd (pi_listK (K := K) (pv 2)) (blkOk_by (own := [("row", 5)]) (N := N__check_shape) (sc := defScope s__check_shape) (by decide +kernel)) (fun _ _ _ _ _ => (pg_name (i := 5) sc__check_shape.nd rfl (Or.inl rfl))) (fun _ _ _ _ _ => pts_nil) (fun _ _ _ _ _ => (pe_cmp (pc_neI (pe_callB (call_lenLiK (K := K)) (by rfl) T.b_len (by decide +kernel) (pa_cons (pv 5) pa_nil)) (pv 3))))) pa_nil))) (pss_one (ps_raise rfl (takes_of rfl rfl rfl rfl) (pmk_own PySem.F.excBase_ValueError T.xx_BadFrame T.xg_BadFrame T.xk_BadFrame (raises_own T.xb_BadFrame T.xt_BadFrame) rfl))) pss_nil)))))), ?_⟩
    obtain ⟨KK, EE, hK0, hE, hw⟩ := cW_gen hw
    have S0 := Sep.startG sG
    unfold F__check_shape at hw
    obtain ⟨a265, vs266, rfl, h267, d268⟩ := rp_list r_planes
    obtain ⟨a269, vs270, rfl, h271, d272⟩ := rp_list r_sizes
    refine ⟨_, rfl, _, _, _, rfl, (SqL.of (S0.bM _ _ h267)), (by rw [d268.len, List.length_map]), _, rfl, _, _, _, rfl, (SqL.of (S0.bM _ _ h271)), (by rw [d272.len, List.length_map]), _, _, rfl, rfl, _, rfl, ?_⟩
    refine iteN (fun c273 => ?_) (fun c273 => ?_)
    · have hw := cW_neg c273 hw
      exact hE 2 (cW_er hw) _ S0.b0
    · have hw := cW_pos c273 hw
      obtain ⟨K274, hK275, hw⟩ := cW_push hw
      refine ⟨_, rfl, _, rfl, _, _, _, _, rfl, .inl ⟨(SqL.of (S0.bM _ _ h267)), (SqL.of (S0.bM _ _ h271)), for_zipM (K := K) (a := a265) (b := a269) (xs := vs266) (ys := vs270) (min ((planes' : (List (List (List Int)))).length) ((sizes' : (List (Int × Int))).length)) (zipM_n (by rw [d268.len, List.length_map]) (by rw [d272.len, List.length_map])) (fun i σ H' => ∃ (u276 : Option V) (u277 : Option V) (u278 : Option V) (G' : Hp), σ = [some (V.ref a265), some (V.ref a269), u276, u277, u278, none] ∧ Same G G' ∧ Sep [] H G G' H' [] ∧ cW (forS (List.drop i (List.zip (planes') (sizes'))) () (fun s x => F__check_shape_b1   x)) K274 EE) ?_ ?_ ?_ ?_⟩⟩
      · exact ⟨_, _, _, _, rfl, (Same.refl _), S0, hw⟩
      · intro i σ H279 hw
        obtain ⟨u276, u277, u278, G281, rfl, eG282, S280, hw⟩ := hw
        exact ⟨(SqL.of (S280.bM _ _ h267)), (SqL.of (S280.bM _ _ h271))⟩
      · intro i x y T284 σ H283 hj hj2 n285 hw
        obtain ⟨u276, u277, u278, G287, rfl, eG288, S286, hw⟩ := hw
        obtain ⟨x289, hx290, r291⟩ := RpAll.get d268 hj
        obtain ⟨a292, vs293, rfl, h294, d295⟩ := rp_list r291
        obtain ⟨x296, hx297, r298⟩ := RpAll.get d272 hj2
        obtain ⟨a299, v301, v302, rfl, h300, r303, r304⟩ := rp_tup2 r298
        obtain rfl := rp_int r303
        obtain rfl := rp_int r304
        generalize g305 : upd H283 T284 _ = H306
        obtain ⟨e307, h308⟩ := gen_new n285 g305
        have h309 : H306 T284 = some (.tup [V.ref a292, V.ref a299]) := h308
        have fr310 := S286.free n285
        obtain ⟨G312, eG313, hg314, S311⟩ := S286.grow n285 e307 h309 fr310
        have hw := cW_forS (zip_get hx290 hx297) hw
        have hw : cW (F__check_shape_b1   ((x289, x296))) _ EE := hw
        unfold F__check_shape_b1 at hw
        obtain ⟨K315, hK316, hw⟩ := cW_name hw
        refine ⟨_, _, rfl, (SqT.of (S311.sG _ _ hg314)), rfl, _, _, rfl, _, _, rfl, _, _, rfl, (SqT.of (S311.bM _ _ h300)), rfl, _, _, rfl, _, _, rfl, rfl, rfl, _, rfl, _, _, _, rfl, (SqL.of (S311.bM _ _ h294)), (by rw [d295.len, List.length_map]), _, rfl, _, _, rfl, rfl, _, rfl, ?_⟩
        refine iteN (fun c318 => ?_) (fun c318 => ?_)
        · have hw := cW_neg c318 hw
          exact hE 2 (cW_er hw) _ S311.b0
        · have hw := cW_pos c318 hw
          obtain ⟨K321, hK322, hw⟩ := cW_push hw
          refine ⟨_, rfl, _, rfl, ⟨_, (SqL.of (S311.bM _ _ h294))⟩, fun D323 n324 => lc_list (K := K) (a := a292) (xs := vs293) (fun i H' => ∃ (G' : Hp) (acc326 : (List Bool)), Same G312 G' ∧ Sep [] H G G' H' [D323] ∧ H' D323 = some (.lst ((acc326 : (List Bool)).map V.bl)) ∧ Same H306 H' ∧ cW (mapA (List.drop i (x289)) acc326 (fun x => noEr (F__check_shape_c2 (x296.1) x))) K321 EE) ?_ ?_ ?_ ?_⟩
          · generalize g328 : upd H306 D323 _ = H329
            obtain ⟨e330, h331⟩ := gen_new n324 g328
            have fr332 := S311.free n324
            have S333 := S311.new n324 e330 h331 fr332
            exact ⟨_, [], Same.refl _, S333, h331, e330, hw⟩
          · intro i H334 _ hw
            obtain ⟨G337, acc339, eG338, S335, h336, eo345, hw⟩ := hw
            exact (SqL.of (S335.bM _ _ h294))
          · intro i x H346 hj hw
            obtain ⟨G349, acc351, eG350, S347, h348, eo357, hw⟩ := hw
            obtain ⟨x358, hx, r359⟩ := RpAll.get d295 hj
            obtain ⟨a360, rfl, h361⟩ := rp_ints r359
            obtain ⟨z362, hw⟩ := cW_mapA hx hw
            have hw := cW_noEr hw
            have hw : cW (F__check_shape_c2 (x296.1) (x358)) _ (fun _ => False) := hw
            unfold F__check_shape_c2 at hw
            refine ⟨rfl, ?_⟩
            refine tyes_go ?_
            refine ⟨_, rfl, _, _, rfl, (SqL.of (S347.bM _ _ h361)), _, rfl, _, _, rfl, rfl, _, h348, (app_lenM z362), ?_⟩
            generalize g364 : upd H346 D323 _ = H365
            obtain ⟨x366, h367⟩ := gen_mut g364
            have S368 := S347.mut1 x366 (.head _) h367
            have hw := cW_ok hw
            exact ⟨_, (acc351 ++ [(!decide (((((x358) : (List Int)).length : Int) : Int) = x296.1))]), eG350, S368, (snoc_map h367), (same_mut eo357 x366 n324), hw⟩
          intro H369 hw
          obtain ⟨G372, acc374, eG373, S370, h371, eo380, hw⟩ := hw
          have hw := hK322 _ (cW_mapA0 (by rw [d295.len, List.length_map]) hw)
          have fr381 := S311.free n324
          refine ⟨_, _, rfl, (SqL.of h371), _, rfl, ?_⟩
          refine iteB (fun c382 => ?_) (fun c382 => ?_)
          · have hw := cW_pos c382 hw
            exact hE 2 (cW_er hw) _ S370.b0
          · have hw := cW_negB c382 hw
            have hw := cW_ok hw
            have hw := hK316 _ hw
            exact ⟨_, _, _, _, rfl, (Same.trans (Same.trans eG288 eG313) eG373), (S370.sub all_nil), hw⟩
      · intro σ H383 hw
        obtain ⟨u276, u277, u278, G385, rfl, eG386, S384, hw⟩ := hw
        have hw := hK275 _ (cW_forS0 zipM_len hw)
        have hw : cW (F__check_shape_r1  ) _ EE := hw
        unfold F__check_shape_r1 at hw
        have hw := cW_ok hw
        exact hK0 _ hw _ S384.b0

abbrev N_Format_planes : List Str := ["self"]
theorem sc_Format_planes : FnScope N_Format_planes ["self"] (defScope s_Format_planes) := ⟨rfl, rfl, rfl, by decide +kernel, rfl, by decide +kernel, by decide +kernel⟩
theorem ok_Format_planes (D : PropX K AD.c_Format "Format.planes" "planes" s_Format_planes ["self"] pats_Format_planes) (T : Txt w K mg AD)  : PropY P w K mg base 1 AD.c_Format "planes" (sp_Format_planes K AD) pats_Format_planes := by
  refine D.ok T.cl_Format sc_Format_planes (fun vs H Q E h => ?_) (fun f cdv A_ outer s H vs Q E hr h => ?_)
  · obtain ⟨G, p_self, dx_self, self', rfl, _⟩ := h
    rfl
  · obtain ⟨G, p_self, dx_self, self', rfl, sG, h_p_self, hw⟩ := h
    refine ⟨_, (pss_one (ps_ret (pe_ifExp (pt_cmp (pc_eqI (fldK (K := K) (pv 0)) pe_int)) pe_int pe_int))), ?_⟩
    obtain ⟨KK, EE, hK0, hE, hw⟩ := cW_gen hw
    have S0 := Sep.startG sG
    unfold F_Format_planes at hw
    refine vv_if (vt_cmp (vv_cmp (val_fld (val_var rfl) (S0.bM _ _ h_p_self) T.cl_Format T.n_Format_chroma rfl) val_c (fun Q q => ⟨_, _, rfl, rfl, q⟩))) val_c val_c _ ?_
    have hw := cW_ok hw
    exact hK0 _ hw _ S0.b0

abbrev N_Format__plane_size : List Str := ["self", "plane", "width", "height"]
theorem sc_Format__plane_size : FnScope N_Format__plane_size ["self", "plane", "width", "height"] (defScope s_Format__plane_size) := ⟨rfl, rfl, rfl, by decide +kernel, rfl, by decide +kernel, by decide +kernel⟩
theorem ok_Format__plane_size (D : MethX K AD.c_Format "Format._plane_size" "_plane_size" s_Format__plane_size ["self", "plane", "width", "height"] pats_Format__plane_size) (T : Txt w K mg AD) (c_Format_planes : PropY P w K mg base 1 AD.c_Format "planes" (sp_Format_planes K AD) pats_Format_planes) : MetX P w K mg base 3 AD.c_Format "_plane_size" (sp_Format__plane_size K AD) pats_Format__plane_size := by
  refine D.ok T.cl_Format sc_Format__plane_size (fun vs H Q E h => ?_) (fun f cdv A_ outer s H vs Q E hr h => ?_)
  · obtain ⟨G, p_self, dx_self, self', plane', width', height', rfl, _⟩ := h
    rfl
  · obtain ⟨G, p_self, dx_self, self', plane', width', height', rfl, sG, h_p_self, hw⟩ := h
    refine ⟨_, (pss_cons (ps_if (pt_not (pt_chain op_le op_lt pe_int (pv 1) (vx_propX c_Format_planes hr (by decide) (pv 0)))) (pss_one (ps_raise rfl (takes_of rfl rfl rfl rfl) (pmk_own PySem.F.excBase_ValueError T.xx_OutOfRange T.xg_OutOfRange T.xk_OutOfRange (raises_own T.xb_OutOfRange T.xt_OutOfRange) rfl))) pss_nil)
      (pss_cons (ps_if (PW.pt (pw_and (pt_cmp (pc_gt (pv 1) pe_int)) (pw_and1 (pt_cmp (pc_eqI (fldK (K := K) (pv 0)) pe_int))))) (pss_one (ps_ret (pe_tup (pa_cons (pe_op op_fdivW (pe_op op_add (pv 2) pe_int) pe_int) (pa_cons (pe_op op_fdivW (pe_op op_add (pv 3) pe_int) pe_int) pa_nil))))) pss_nil)
      (pss_one (ps_ret (pe_tup (pa_cons (pv 2) (pa_cons (pv 3) pa_nil))))))), ?_⟩
    obtain ⟨KK, EE, hK0, hE, hw⟩ := cW_gen hw
    have S0 := Sep.startG sG
    unfold F_Format__plane_size at hw
    refine ⟨_, rfl, _, _, rfl, rfl, _, rfl, ?_⟩
    refine iteD (fun c390 => ?_) (fun c390 => ?_)
    · have hw := cW_pos c390 hw
      refine ⟨_, rfl, _, _, _, rfl, (S0.bM _ _ h_p_self), G, _, _, self', rfl, S0.sG, (hide_nil (S0.bM _ _ h_p_self)), cW_callN hw (fun v391 hw H392 e393 => ?_) trivial⟩
      have S394 := S0.same e393
      refine ⟨_, _, rfl, rfl, _, rfl, ?_⟩
      refine iteN (fun c395 => ?_) (fun c395 => ?_)
      · have hw := cW_neg c395 hw
        exact hE 3 (cW_er hw) _ S394.b0
      · have hw := cW_pos c395 hw
        refine ⟨_, rfl, _, _, rfl, rfl, _, rfl, ?_⟩
        refine iteD (fun c396 => ?_) (fun c396 => ?_)
        · have hw := cW_pos c396 hw
          refine ⟨_, rfl, _, _, _, _, _, rfl, (S394.bM _ _ h_p_self), T.cl_Format, T.n_Format_chroma, rfl, _, _, rfl, rfl, _, rfl, ?_⟩
          refine iteD (fun c397 => ?_) (fun c397 => ?_)
          · have hw := cW_pos c397 hw
            refine ⟨_, rfl, _, _, rfl, rfl, _, _, rfl, rfl, (divW_lit (by decide) (by decide)), _, rfl, _, _, rfl, rfl, _, _, rfl, rfl, (divW_lit (by decide) (by decide)), (by show 2 ≤ sizeLine; decide), fun p398 n399 => ?_⟩
            generalize g400 : upd H392 p398 _ = H401
            obtain ⟨e402, h403⟩ := gen_new n399 g400
            have h404 : H401 p398 = some (.tup [V.int (((width' + 1) / 2)), V.int (((height' + 1) / 2))]) := h403
            have fr405 := S394.free n399
            obtain ⟨G407, eG408, hg409, S406⟩ := S394.grow n399 e402 h404 fr405
            have hw := cW_ok hw
            exact hK0 _ hw _ _ _ S406.b0 S406.g0 S406.sG S406.gn (rp_mk2 hg409 (.int _) (.int _))
          · have hw := cW_neg c397 hw
            refine ⟨_, rfl, _, rfl, (by show 2 ≤ sizeLine; decide), fun p410 n411 => ?_⟩
            generalize g412 : upd H392 p410 _ = H413
            obtain ⟨e414, h415⟩ := gen_new n411 g412
            have h416 : H413 p410 = some (.tup [V.int (width'), V.int (height')]) := h415
            have fr417 := S394.free n411
            obtain ⟨G419, eG420, hg421, S418⟩ := S394.grow n411 e414 h416 fr417
            have hw := cW_ok hw
            exact hK0 _ hw _ _ _ S418.b0 S418.g0 S418.sG S418.gn (rp_mk2 hg421 (.int _) (.int _))
        · have hw := cW_neg c396 hw
          refine iteF ?_
          refine ⟨_, rfl, _, rfl, (by show 2 ≤ sizeLine; decide), fun p422 n423 => ?_⟩
          generalize g424 : upd H392 p422 _ = H425
          obtain ⟨e426, h427⟩ := gen_new n423 g424
          have h428 : H425 p422 = some (.tup [V.int (width'), V.int (height')]) := h427
          have fr429 := S394.free n423
          obtain ⟨G431, eG432, hg433, S430⟩ := S394.grow n423 e426 h428 fr429
          have hw := cW_ok hw
          exact hK0 _ hw _ _ _ S430.b0 S430.g0 S430.sG S430.gn (rp_mk2 hg433 (.int _) (.int _))
    · have hw := cW_neg c390 hw
      refine ⟨_, rfl, ?_⟩
      refine iteT ?_
      exact hE 3 (cW_er hw) _ S0.b0

abbrev N_Format_size : List Str := ["self", "plane"]
theorem sc_Format_size : FnScope N_Format_size ["self", "plane"] (defScope s_Format_size) := ⟨rfl, rfl, rfl, by decide +kernel, rfl, by decide +kernel, by decide +kernel⟩
theorem ok_Format_size (D : MethX K AD.c_Format "Format.size" "size" s_Format_size ["self", "plane"] pats_Format_size) (T : Txt w K mg AD) (c_Format__plane_size : MetX P w K mg base 3 AD.c_Format "_plane_size" (sp_Format__plane_size K AD) pats_Format__plane_size) : MetX P w K mg base 4 AD.c_Format "size" (sp_Format_size K AD) pats_Format_size := by
  refine D.ok T.cl_Format sc_Format_size (fun vs H Q E h => ?_) (fun f cdv A_ outer s H vs Q E hr h => ?_)
  · obtain ⟨G, p_self, dx_self, self', plane', rfl, _⟩ := h
    rfl
  · obtain ⟨G, p_self, dx_self, self', plane', rfl, sG, h_p_self, hw⟩ := h
    refine ⟨_, (pss_one (ps_ret (vx_methX c_Format__plane_size pat_Format__plane_size_0 (.head _) hr (by decide) (takes_of rfl rfl rfl rfl) (pv 0) (pa_cons (pv 1) (pa_cons (fldK (K := K) (pv 0)) (pa_cons (fldK (K := K) (pv 0)) pa_nil))) pk_nil))), ?_⟩
    obtain ⟨KK, EE, hK0, hE, hw⟩ := cW_gen hw
    have S0 := Sep.startG sG
    unfold F_Format_size at hw
    refine ⟨_, rfl, _, _, _, rfl, (S0.bM _ _ h_p_self), rfl, _, rfl, _, rfl, _, _, _, _, _, rfl, (S0.bM _ _ h_p_self), T.cl_Format, T.n_Format_width, rfl, _, rfl, _, _, _, _, _, rfl, (S0.bM _ _ h_p_self), T.cl_Format, T.n_Format_height, rfl, rfl, rfl, G, _, _, self', _, _, _, rfl, S0.sG, (hide_nil (S0.bM _ _ h_p_self)), cW_call hw (fun v434 hw v437 H435 G438 e436 eG439 sG440 hn441 r442 => ?_) (fun e he H2 e2 => hE e he H2 (Same.trans S0.b0 e2))⟩
    have S443 := S0.step e436 eG439 sG440 hn441
    obtain ⟨a444, v446, v447, rfl, h445, r448, r449⟩ := rp_tup2 r442
    obtain rfl := rp_int r448
    obtain rfl := rp_int r449
    have hw := cW_ok hw
    exact hK0 _ hw _ _ _ S443.b0 S443.g0 S443.sG S443.gn (rp_mk2 h445 (.int _) (.int _))

abbrev N__sizes : List Str := ["fmt", "plane"]
theorem sc__sizes : FnScope N__sizes ["fmt"] (defScope s__sizes) := ⟨rfl, rfl, rfl, by decide +kernel, rfl, by decide +kernel, by decide +kernel⟩
theorem ok__sizes (D : DefX K mg "_sizes" s__sizes ["fmt"] pats__sizes) (T : Txt w K mg AD) (c_Format_planes : PropY P w K mg base 1 AD.c_Format "planes" (sp_Format_planes K AD) pats_Format_planes) (c_Format_size : MetX P w K mg base 4 AD.c_Format "size" (sp_Format_size K AD) pats_Format_size) : CalX P w K mg base 5 "_sizes" (sp__sizes K AD) pats__sizes := by
  refine D.ok sc__sizes (fun vs H Q E h => ?_) (fun f cdv A_ outer s H vs Q E hr h => ?_)
  · obtain ⟨G, p_fmt, dx_fmt, fmt', rfl, _⟩ := h
    rfl
  · obtain ⟨G, p_fmt, dx_fmt, fmt', rfl, sG, h_p_fmt, hw⟩ := h
    refine ⟨_, (pss_one (ps_ret (pe_lc (own := [("plane", 1)]) (g := gName 1) (by rfl) sc__sizes.nd (pi_range1 rfl T.b_range (pa_cons (vx_propX c_Format_planes hr (by decide) (pv 0)) pa_nil)) (blkOk_by (own := [("plane", 1)]) (N := N__sizes) (sc := defScope s__sizes) (by decide +kernel)) (fun _ _ _ _ _ => (pg_name (i := 1) sc__sizes.nd rfl (Or.inl rfl))) (fun _ _ _ _ _ => pts_nil) (fun _ _ _ _ _ => (vx_methX c_Format_size pat_Format_size_0 (.head _) hr (by decide) takes0 (pv 0) (pa_cons (pv 1) pa_nil) pk_nil))))), ?_⟩
    obtain ⟨KK, EE, hK0, hE, hw⟩ := cW_gen hw
    have S0 := Sep.startG sG
    unfold F__sizes at hw
    refine ⟨_, rfl, _, _, _, rfl, (S0.bM _ _ h_p_fmt), G, _, _, fmt', rfl, S0.sG, (hide_nil (S0.bM _ _ h_p_fmt)), cW_callN hw (fun v450 hw H451 e452 => ?_) trivial⟩
    have S453 := S0.same e452
    obtain ⟨g454, hw⟩ := cW_grd hw
    obtain ⟨K457, hK458, hw⟩ := cW_push hw
    refine ⟨_, rfl, g454.1, g454.2, fun D459 n460 => lc_range (lo := 0) (n := Int.toNat (v450)) (fun i H' => ∃ (G' : Hp) (acc462 : (List (Int × Int))) (vs463 : List V), Same G G' ∧ Sep [] H G G' H' [D459] ∧ H' D459 = some (.lst vs463) ∧ RpAll G' vs463 ((acc462 : (List (Int × Int))).map (encT2 PyData.int PyData.int)) ∧ Same H451 H' ∧ cW (mapA (List.drop i (rng (0) (Int.toNat (v450)))) acc462 (fun x => noEr (F__sizes_c1 (fmt') x))) K457 EE) ?_ ?_ ?_⟩
    · generalize g464 : upd H451 D459 _ = H465
      obtain ⟨e466, h467⟩ := gen_new n460 g464
      have fr468 := S453.free n460
      have S469 := S453.new n460 e466 h467 fr468
      exact ⟨_, [], [], Same.refl _, S469, h467, RpAll.nil, e466, hw⟩
    · intro i H470 hi hw
      obtain ⟨G473, acc475, vs476, eG474, S471, h472, d477, eo481, hw⟩ := hw
      obtain ⟨z482, hw⟩ := cW_mapA (rng_get hi) hw
      generalize (0 + (i : Int)) = x483 at hw ⊢
      have hw := cW_noEr hw
      have hw : cW (F__sizes_c1 (fmt') (x483)) _ (fun _ => False) := hw
      unfold F__sizes_c1 at hw
      refine ⟨rfl, ?_⟩
      refine tyes_go ?_
      refine ⟨_, rfl, _, _, _, rfl, (S471.bM _ _ h_p_fmt), rfl, _, rfl, rfl, rfl, G473, _, _, fmt', _, rfl, S471.sG, (hide_nil (S471.bM _ _ h_p_fmt)), cW_call hw (fun v485 hw v488 H486 G489 e487 eG490 sG491 hn492 r493 => ?_) (fun e he => he.elim)⟩
      have S494 := S471.step e487 eG490 sG491 hn492
      obtain ⟨a495, v497, v498, rfl, h496, r499, r500⟩ := rp_tup2 r493
      obtain rfl := rp_int r499
      obtain rfl := rp_int r500
      have h501 := (e487 _ _ h472)
      refine ⟨_, h501, (app_len (RpAll.mono eG490 d477) z482), ?_⟩
      generalize g502 : upd H486 D459 _ = H503
      obtain ⟨x504, h505⟩ := gen_mut g502
      have S506 := S494.mut1 x504 (.head _) h505
      have hw := cW_ok hw
      exact ⟨_, (acc475 ++ [v485]), _, (Same.trans eG474 eG490), S506, h505, (app_map (RpAll.mono eG490 d477) (RpAll.one (rp_mk2 h496 (.int _) (.int _)))), (same_mut (Same.trans eo481 e487) x504 n460), hw⟩
    intro H507 hw
    obtain ⟨G510, acc512, vs513, eG511, S508, h509, d514, eo518, hw⟩ := hw
    have hw := hK458 _ (cW_mapA0 (rng_len _ _).symm hw)
    have fr519 := S453.free n460
    have hw := cW_ok hw
    exact hK0 _ hw _ _ _ _ fr519 S508.b0 S508.g0 S508.sG S508.gn (S508.ow _ (.head _)).1 h509 d514

abbrev N_Format_top : List Str := ["self"]
theorem sc_Format_top : FnScope N_Format_top ["self"] (defScope s_Format_top) := ⟨rfl, rfl, rfl, by decide +kernel, rfl, by decide +kernel, by decide +kernel⟩
theorem ok_Format_top (D : PropX K AD.c_Format "Format.top" "top" s_Format_top ["self"] pats_Format_top) (T : Txt w K mg AD)  : PropY P w K mg base 1 AD.c_Format "top" (sp_Format_top K AD) pats_Format_top := by
  refine D.ok T.cl_Format sc_Format_top (fun vs H Q E h => ?_) (fun f cdv A_ outer s H vs Q E hr h => ?_)
  · obtain ⟨G, p_self, dx_self, self', rfl, _⟩ := h
    rfl
  · obtain ⟨G, p_self, dx_self, self', rfl, sG, h_p_self, hw⟩ := h
    refine ⟨_, (pss_one (ps_ret (pe_op op_sub (pe_op op_shlW pe_int (fldK (K := K) (pv 0))) pe_int))), ?_⟩
    obtain ⟨KK, EE, hK0, hE, hw⟩ := cW_gen hw
    have S0 := Sep.startG sG
    unfold F_Format_top at hw
    obtain ⟨g520, hw⟩ := cW_grd hw
    refine ⟨_, rfl, _, _, _, _, _, rfl, (S0.bM _ _ h_p_self), T.cl_Format, T.n_Format_depth, rfl, _, _, rfl, rfl, (shl_side g520.1 g520.2.1 g520.2.2.1 g520.2.2.2), _, _, rfl, rfl, ?_⟩
    have hw := cW_ok hw
    exact hK0 _ hw _ S0.b0

abbrev N_check_frame : List Str := ["fmt", "frame", "plane", "row"]
theorem sc_check_frame : FnScope N_check_frame ["fmt", "frame"] (defScope s_check_frame) := ⟨rfl, rfl, rfl, by decide +kernel, rfl, by decide +kernel, by decide +kernel⟩
theorem ok_check_frame (D : DefX K mg "check_frame" s_check_frame ["fmt", "frame"] pats_check_frame) (T : Txt w K mg AD) (c__check_shape : CalX P w K mg base 1 "_check_shape" (sp__check_shape K AD) pats__check_shape) (c__sizes : CalX P w K mg base 5 "_sizes" (sp__sizes K AD) pats__sizes) (c_Format_top : PropY P w K mg base 1 AD.c_Format "top" (sp_Format_top K AD) pats_Format_top) : CalX P w K mg base 6 "check_frame" (sp_check_frame K AD) pats_check_frame := by
  refine D.ok sc_check_frame (fun vs H Q E h => ?_) (fun f cdv A_ outer s H vs Q E hr h => ?_)
  · obtain ⟨G, p_fmt, dx_fmt, fmt', v_frame, frame', rfl, _⟩ := h
    rfl
  · obtain ⟨G, p_fmt, dx_fmt, fmt', v_frame, frame', rfl, sG, h_p_fmt, r_frame, hw⟩ := h
    refine ⟨_, (pss_cons (ps_expr (vx_callX c__check_shape pat__check_shape_0 (.head _) hr (by decide) (takes_of rfl rfl rfl rfl) rfl (pa_cons (pv 1) (pa_cons (vx_callX c__sizes pat__sizes_0 (.head _) hr (by decide) (takes_of rfl rfl rfl rfl) rfl (pa_cons (pv 0) pa_nil) pk_nil) pa_nil)) pk_nil))
      (pss_one (ps_for (passes_of rfl) rfl (pi_listK (K := K) (pv 1)) (pg_name (i := 2) sc_check_frame.nd rfl (Or.inl rfl)) (pss_one (ps_for (passes_of rfl) rfl (pi_listK (K := K) (pv 2)) (pg_name (i := 3) sc_check_frame.nd rfl (Or.inl rfl)) (pss_one (ps_if (PW.pt (pw_or (pt_cmp (pc_lt (pe_callB (cr_minL (K := K) rfl) (by rfl) T.b_min (by decide +kernel) (pa_cons (pv 3) pa_nil)) pe_int)) (pw_or1 (pt_cmp (pc_gt (pe_callB (cr_maxL (K := K) rfl) (by rfl) T.b_max (by decide +kernel) (pa_cons (pv 3) pa_nil)) (vx_propX c_Format_top hr (by decide) (pv 0))))))) (pss_one (ps_raise rfl (takes_of rfl rfl rfl rfl) (pmk_own PySem.F.excBase_ValueError T.xx_BadFrame T.xg_BadFrame T.xk_BadFrame (raises_own T.xb_BadFrame T.xt_BadFrame) rfl))) pss_nil))))))), ?_⟩
    obtain ⟨KK, EE, hK0, hE, hw⟩ := cW_gen hw
    have S0 := Sep.startG sG
    unfold F_check_frame at hw
    obtain ⟨a521, vs522, rfl, h523, d524⟩ := rp_list r_frame
    refine ⟨_, rfl, _, rfl, rfl, rfl, G, _, _, fmt', rfl, S0.sG, (hide_nil (S0.bM _ _ h_p_fmt)), cW_call hw (fun v525 hw p528 vs529 H526 G530 n531 e527 eG532 sG533 hn534 gp535 h536 d537 => ?_) (fun e he H2 e2 => hE e he H2 (Same.trans S0.b0 e2))⟩
    have fr539 := S0.free n531
    have S538 := S0.stepnew e527 eG532 sG533 hn534 n531 h536 gp535 fr539
    refine ⟨rfl, rfl, G530, _, _, _, _, rfl, S538.sG, (Rp.hide_nil (rp_mk_list (S538.bM _ _ h523) (RpAll.mono S538.bM d524))), (Rp.hide_nil (rp_mk_list h536 (RpAll.mono S538.sG d537))), cW_call hw (fun v540 hw H541 e542 => ?_) (fun e he H2 e2 => hE e he H2 (Same.trans S538.b0 e2))⟩
    have S543 := S538.same e542
    obtain ⟨K545, hK546, hw⟩ := cW_push hw
    refine ⟨_, rfl, _, rfl, ⟨_, (SqL.of (S543.bM _ _ h523))⟩, for_list (K := K) (a := a521) (xs := vs522) (fun i σ H' => ∃ (u547 : Option V) (u548 : Option V) (G' : Hp), σ = [some (V.ref p_fmt), some (V.ref a521), u547, u548] ∧ Same G530 G' ∧ Sep [] H G G' H' [] ∧ cW (forS (List.drop i (frame')) () (fun s x => F_check_frame_b1 (fmt')  x)) K545 EE) ?_ ?_ ?_ ?_⟩
    · exact ⟨_, _, _, rfl, (Same.refl _), (S543.sub all_nil), hw⟩
    · intro i σ H549 _ hw
      obtain ⟨u547, u548, G551, rfl, eG552, S550, hw⟩ := hw
      exact (SqL.of (S550.bM _ _ h523))
    · intro i x σ H553 hj hw
      obtain ⟨u547, u548, G555, rfl, eG556, S554, hw⟩ := hw
      obtain ⟨x557, hx, r558⟩ := RpAll.get d524 hj
      obtain ⟨a559, vs560, rfl, h561, d562⟩ := rp_list r558
      have hw := cW_forS hx hw
      have hw : cW (F_check_frame_b1 (fmt')  (x557)) _ EE := hw
      unfold F_check_frame_b1 at hw
      obtain ⟨K563, hK564, hw⟩ := cW_name hw
      obtain ⟨K567, hK568, hw⟩ := cW_push hw
      refine ⟨_, rfl, _, rfl, ⟨_, (SqL.of (S554.bM _ _ h561))⟩, for_list (K := K) (a := a559) (xs := vs560) (fun i σ H' => ∃ (u569 : Option V) (G' : Hp), σ = [some (V.ref p_fmt), some (V.ref a521), some (V.ref a559), u569] ∧ Same G555 G' ∧ Sep [] H G G' H' [] ∧ cW (forS (List.drop i (x557)) () (fun s x => F_check_frame_b2 (fmt')  x)) K567 EE) ?_ ?_ ?_ ?_⟩
      · exact ⟨_, _, rfl, (Same.refl _), S554, hw⟩
      · intro i σ H570 _ hw
        obtain ⟨u569, G572, rfl, eG573, S571, hw⟩ := hw
        exact (SqL.of (S571.bM _ _ h561))
      · intro i x σ H574 hj hw
        obtain ⟨u569, G576, rfl, eG577, S575, hw⟩ := hw
        obtain ⟨x578, hx, r579⟩ := RpAll.get d562 hj
        obtain ⟨a580, rfl, h581⟩ := rp_ints r579
        have hw := cW_forS hx hw
        have hw : cW (F_check_frame_b2 (fmt')  (x578)) _ EE := hw
        unfold F_check_frame_b2 at hw
        obtain ⟨K582, hK583, hw⟩ := cW_name hw
        obtain ⟨g585, hw⟩ := cW_grd hw
        refine ⟨_, rfl, _, _, rfl, (SqL.of (S575.bM _ _ h581)), g585, _, _, rfl, rfl, _, rfl, ?_⟩
        refine iteD (fun c586 => ?_) (fun c586 => ?_)
        · have hw := cW_pos c586 hw
          refine iteT ?_
          exact hE 2 (cW_er hw) _ S575.b0
        · have hw := cW_neg c586 hw
          obtain ⟨g587, hw⟩ := cW_grd hw
          refine ⟨_, rfl, _, _, rfl, (SqL.of (S575.bM _ _ h581)), g587, _, rfl, _, _, _, rfl, (S575.bM _ _ h_p_fmt), G576, _, _, fmt', rfl, S575.sG, (hide_nil (S575.bM _ _ h_p_fmt)), cW_callN hw (fun v588 hw H589 e590 => ?_) trivial⟩
          have S591 := S575.same e590
          refine ⟨_, _, rfl, rfl, _, rfl, ?_⟩
          refine iteD (fun c592 => ?_) (fun c592 => ?_)
          · have hw := cW_pos c592 hw
            exact hE 2 (cW_er hw) _ S591.b0
          · have hw := cW_neg c592 hw
            have hw := cW_ok hw
            have hw := hK583 _ hw
            exact ⟨_, _, rfl, eG577, S591, hw⟩
      · intro σ H593 hw
        obtain ⟨u569, G595, rfl, eG596, S594, hw⟩ := hw
        have hw := hK568 _ (cW_forS0 (by rw [d562.len, List.length_map]) hw)
        have hw : cW (F_check_frame_r2  ) _ EE := hw
        unfold F_check_frame_r2 at hw
        have hw := cW_ok hw
        have hw := hK564 _ hw
        exact ⟨_, _, _, rfl, (Same.trans eG556 eG596), S594, hw⟩
    · intro σ H597 hw
      obtain ⟨u547, u548, G599, rfl, eG600, S598, hw⟩ := hw
      have hw := hK546 _ (cW_forS0 (by rw [d524.len, List.length_map]) hw)
      have hw : cW (F_check_frame_r1  ) _ EE := hw
      unfold F_check_frame_r1 at hw
      have hw := cW_ok hw
      exact hK0 _ hw _ S598.b0

abbrev N__pad_plane : List Str := ["plane", "size", "width", "height", "rows", "below", "row", "_"]
theorem sc__pad_plane : FnScope N__pad_plane ["plane", "size"] (defScope s__pad_plane) := ⟨rfl, rfl, rfl, by decide +kernel, rfl, by decide +kernel, by decide +kernel⟩
theorem ok__pad_plane (D : DefX K mg "_pad_plane" s__pad_plane ["plane", "size"] pats__pad_plane) (T : Txt w K mg AD)  : CalX P w K mg base 1 "_pad_plane" (sp__pad_plane K AD) pats__pad_plane := by
  refine D.ok sc__pad_plane (fun vs H Q E h => ?_) (fun f cdv A_ outer s H vs Q E hr h => ?_)
  · obtain ⟨G, v_plane, plane', v_size, size', rfl, _⟩ := h
    rfl
  · obtain ⟨G, v_plane, plane', v_size, size', rfl, sG, r_plane, r_size, hw⟩ := h
    refine ⟨_, (pss_cons (ps_asg (pv 1) (pg_tupK (K := K) (n := 2) (pgs_cons (pg_name (i := 2) sc__pad_plane.nd rfl (Or.inr rfl)) (pgs_cons (pg_name (i := 3) sc__pad_plane.nd rfl (Or.inl rfl)) pgs_nil))))
      (pss_cons (ps_set (i := 4) sc__pad_plane.nd rfl (Or.inr rfl) (pe_lc (own := [("row", 6)]) (g := gName 6) (by rfl) sc__pad_plane.nd (pi_listK (K := K) (pv 0)) (blkOk_by (own := [("row", 6)]) (N := N__pad_plane) (sc := defScope s__pad_plane) (by decide +kernel)) (fun _ _ _ _ _ => (pg_name (i := 6) sc__pad_plane.nd rfl (Or.inl rfl))) (fun _ _ _ _ _ => pts_nil) (fun _ _ _ _ _ => (pe_op op_cat (pv 6) (pe_op op_rep (pe_lst (pa_cons (pe_ix (ix_listK (K := K)) (pv 6) (pe_un un_neg pe_int) (fun _ _ => rfl)) pa_nil)) (pe_op op_sub (pv 2) (pe_callB (call_lenLiK (K := K)) (by rfl) T.b_len (by decide +kernel) (pa_cons (pv 6) pa_nil))))))))
      (pss_cons (ps_setLc (i := 5) (y := "below") rfl sc__pad_plane.nd rfl rfl (sw_true rfl rfl rfl (by decide +kernel)) (own := [("_", 7)]) (g := gName 7) (pi_range1 rfl T.b_range (pa_cons (pe_op op_sub (pv 3) (pe_callB (call_lenLK (K := K)) (by rfl) T.b_len (by decide +kernel) (pa_cons (pv 4) pa_nil))) pa_nil)) (blkOk_by (own := [("_", 7)]) (N := N__pad_plane) (sc := defScope s__pad_plane) (by decide +kernel)) (fun _ _ _ _ _ => (pg_name (i := 7) sc__pad_plane.nd rfl (Or.inl rfl))) (fun _ _ _ _ _ => pts_nil) (fun _ _ _ _ _ => (pe_callTy (call_listLK (K := K)) (by rfl) T.b_list (by decide +kernel) (pa_cons (pe_ix (ix_listK (K := K)) (pv 4) (pe_un un_neg pe_int) (fun _ _ => rfl)) pa_nil))))
      (pss_one (ps_ret (pe_op op_cat (pv 4) (pv 5))))))), ?_⟩
    obtain ⟨KK, EE, hK0, hE, hw⟩ := cW_gen hw
    have S0 := Sep.startG sG
    unfold F__pad_plane at hw
    obtain ⟨a601, vs602, rfl, h603, d604⟩ := rp_list r_plane
    obtain ⟨a605, v607, v608, rfl, h606, r609, r610⟩ := rp_tup2 r_size
    obtain rfl := rp_int r609
    obtain rfl := rp_int r610
    obtain ⟨K613, hK614, hw⟩ := cW_push hw
    refine ⟨_, rfl, _, _, rfl, (SqT.of (S0.bM _ _ h606)), rfl, _, _, rfl, _, _, rfl, rfl, _, rfl, _, rfl, ⟨_, (SqL.of (S0.bM _ _ h603))⟩, fun D615 n616 => lc_list (K := K) (a := a601) (xs := vs602) (fun i H' => ∃ (G' : Hp) (acc618 : (List (List Int))) (vs619 : List V) (L617 : List Addr), Same G G' ∧ Sep [] H G G' H' (D615 :: (L617 ++ [])) ∧ H' D615 = some (.lst vs619) ∧ OwAll G' H' L617 vs619 ((acc618 : (List (List Int))).map (oL oI)) ∧ (∀ b ∈ L617, H b = none) ∧ (∀ b ∈ L617, b ≠ D615) ∧ Same H H' ∧ cW (mapA (List.drop i (plane')) acc618 (fun x => noEr (F__pad_plane_c1 (size'.1) x))) K613 EE) ?_ ?_ ?_ ?_⟩
    · generalize g620 : upd H D615 _ = H621
      obtain ⟨e622, h623⟩ := gen_new n616 g620
      have fr624 := S0.free n616
      have S625 := S0.new n616 e622 h623 fr624
      exact ⟨_, [], [], [], Same.refl _, (S625.sub (all_cons (.head _) (all_app (L := []) all_nil all_nil))), h623, OwAll.nil, all_nil, all_nil, e622, hw⟩
    · intro i H626 _ hw
      obtain ⟨G629, acc631, vs632, L634, eG630, S627, h628, d633, nb635, nd636, eo637, hw⟩ := hw
      exact (SqL.of (S627.bM _ _ h603))
    · intro i x H638 hj hw
      obtain ⟨G641, acc643, vs644, L646, eG642, S639, h640, d645, nb647, nd648, eo649, hw⟩ := hw
      obtain ⟨x650, hx, r651⟩ := RpAll.get d604 hj
      obtain ⟨a652, rfl, h653⟩ := rp_ints r651
      obtain ⟨z654, hw⟩ := cW_mapA hx hw
      have hw := cW_noEr hw
      have hw : cW (F__pad_plane_c1 (size'.1) (x650)) _ (fun _ => False) := hw
      unfold F__pad_plane_c1 at hw
      refine ⟨rfl, ?_⟩
      refine tyes_go ?_
      obtain ⟨g656, hw⟩ := cW_grd hw
      refine ⟨_, rfl, _, rfl, _, rfl, _, _, _, _, rfl, rfl, (SqL.of (S639.bM _ _ h653)), (atI_map g656), (by show 1 ≤ sizeLine; decide), fun p657 n658 => ?_⟩
      generalize g659 : upd H638 p657 _ = H660
      obtain ⟨e661, h662⟩ := gen_new n658 g659
      have h663 : H660 p657 = some (.lst (([(itD (x650) ((-1)))] : (List Int)).map V.int)) := h662
      have fr664 := S639.free n658
      have S665 := S639.new n658 e661 h663 fr664
      obtain ⟨g666, hw⟩ := cW_grd hw
      refine ⟨_, rfl, _, rfl, _, _, rfl, (SqL.of (S665.bM _ _ h653)), _, _, rfl, rfl, _, _, _, rfl, rfl, h663, g666.1, g666.2.1, (rep_lenM g666.2.2), fun p667 n668 => ?_⟩
      generalize g669 : upd H660 p667 _ = H670
      obtain ⟨e671, h672⟩ := gen_new n668 g669
      have h673 : H670 p667 = some (.lst ((repL ([(itD (x650) ((-1)))]) ((size'.1 - (((x650) : (List Int)).length : Int))) : (List Int)).map V.int)) := rep_map h672
      have fr674 := S665.free n668
      have S675 := S665.new n668 e671 h673 fr674
      obtain ⟨g676, hw⟩ := cW_grd hw
      refine ⟨_, _, _, _, rfl, rfl, (S675.bM _ _ h653), h673, (cat_lenM g676), fun p677 n678 => ?_⟩
      generalize g679 : upd H670 p677 _ = H680
      obtain ⟨e681, h682⟩ := gen_new n678 g679
      have h683 : H680 p677 = some (.lst (((x650) ++ (repL ([(itD (x650) ((-1)))]) ((size'.1 - (((x650) : (List Int)).length : Int)))) : (List Int)).map V.int)) := cat_map h682
      have fr684 := S675.free n678
      have S685 := S675.new n678 e681 h683 fr684
      have w686 : OwAll G641 H680 L646 (vs644) ((acc643 : (List (List Int))).map (oL oI)) := (OwAll.mono (Same.refl _) (keeps_same e681) (OwAll.mono (Same.refl _) (keeps_same e671) (OwAll.mono (Same.refl _) (keeps_same e661) d645)))
      have h687 := (e681 _ _ (e671 _ _ (e661 _ _ h640)))
      refine ⟨_, h687, (app_len (OwAll.rpA w686 (encO_L encO_I) S685.sG) z654), ?_⟩
      generalize g688 : upd H680 D615 _ = H689
      obtain ⟨x690, h691⟩ := gen_mut g688
      have S692 := S685.mut1 x690 (.tail _ (.tail _ (.tail _ (.head _)))) h691
      have hw := cW_ok hw
      exact ⟨_, (acc643 ++ [(x650) ++ (repL ([(itD (x650) ((-1)))]) ((size'.1 - (((x650) : (List Int)).length : Int))))]), _, (L646 ++ (p677 :: ([] : List Addr))), eG642, (S692.sub (all_cons (.tail _ (.tail _ (.tail _ (.head _)))) (all_app (all_app ((fun b hb => (.tail _ (.tail _ (.tail _ (.tail _ (List.mem_append_left _ hb)))))) : ∀ b ∈ L646, b ∈ (p677 :: (p667 :: (p657 :: (D615 :: (L646 ++ [])))))) (all_cons (.head _) all_nil)) all_nil))), h691, (OwAll.mono (Same.refl _) (keeps_mut x690 ((all_app nd648 (all_cons (ne_of_none (e671 _ _ (e661 _ _ h640)) n678).symm all_nil)) : ∀ b ∈ (L646 ++ (p677 :: ([] : List Addr))), b ≠ D615)) (OwAll.snocM w686 (Ow.ints h683) ((fun b hb => (nm_cons ((there_ne (fun b_ hb_ => (S675.ow b_ (((fun b hb => (.tail _ (.tail _ (.tail _ (List.mem_append_left _ hb))))) : ∀ b ∈ L646, b ∈ (p667 :: (p657 :: (D615 :: (L646 ++ []))))) b_ hb_)).2.1) n678) b hb) nm_nil)) : ∀ b ∈ L646, b ∉ (p677 :: ([] : List Addr))))), ((all_app nb647 (all_cons (none_of_same (Same.trans (Same.trans eo649 e661) e671) n678) all_nil)) : ∀ b ∈ (L646 ++ (p677 :: ([] : List Addr))), H b = none), ((all_app nd648 (all_cons (ne_of_none (e671 _ _ (e661 _ _ h640)) n678).symm all_nil)) : ∀ b ∈ (L646 ++ (p677 :: ([] : List Addr))), b ≠ D615), (same_mut (Same.trans (Same.trans (Same.trans eo649 e661) e671) e681) x690 n616), hw⟩
    intro H693 hw
    obtain ⟨G696, acc698, vs699, L701, eG697, S694, h695, d700, nb702, nd703, eo704, hw⟩ := hw
    have hw := hK614 _ (cW_mapA0 (by rw [d604.len, List.length_map]) hw)
    have fr705 := S0.free n616
    obtain ⟨g706, hw⟩ := cW_grd hw
    obtain ⟨K709, hK710, hw⟩ := cW_push hw
    refine ⟨_, rfl, _, rfl, _, _, _, rfl, (SqL.of h695), (by rw [(OwAll.rpA d700 (encO_L encO_I) S694.sG).len, List.length_map]), _, _, rfl, rfl, _, rfl, g706.1, g706.2, fun D711 n712 => lc_range (lo := 0) (n := Int.toNat ((size'.2 - (((acc698) : (List (List Int))).length : Int)))) (fun i H' => ∃ (G' : Hp) (acc714 : (List (List Int))) (vs715 : List V) (L713 : List Addr), Same G696 G' ∧ Sep [] H G G' H' (D711 :: (L713 ++ (D615 :: (L701 ++ [])))) ∧ H' D615 = some (.lst (vs699)) ∧ H' D711 = some (.lst vs715) ∧ OwAll G' H' L701 (vs699) ((acc698 : (List (List Int))).map (oL oI)) ∧ OwAll G' H' L713 vs715 ((acc714 : (List (List Int))).map (oL oI)) ∧ (∀ b ∈ L713, H693 b = none) ∧ (∀ b ∈ L713, b ≠ D711) ∧ Same H693 H' ∧ cW (mapA (List.drop i (rng (0) (Int.toNat ((size'.2 - (((acc698) : (List (List Int))).length : Int)))))) acc714 (fun x => noEr (F__pad_plane_c2 (acc698) x))) K709 EE) ?_ ?_ ?_⟩
    · generalize g716 : upd H693 D711 _ = H717
      obtain ⟨e718, h719⟩ := gen_new n712 g716
      have fr720 := S694.free n712
      have S721 := S694.new n712 e718 h719 fr720
      have h722 := (e718 _ _ h695)
      have w723 : OwAll G696 H717 L701 (vs699) ((acc698 : (List (List Int))).map (oL oI)) := (OwAll.mono (Same.refl _) (keeps_same e718) d700)
      exact ⟨_, [], [], [], Same.refl _, (S721.sub (all_cons (.head _) (all_app (L := []) all_nil (all_cons (.tail _ (.head _)) (all_app ((fun b hb => (.tail _ (.tail _ (List.mem_append_left _ hb)))) : ∀ b ∈ L701, b ∈ (D711 :: (D615 :: (L701 ++ [])))) all_nil))))), h722, h719, w723, OwAll.nil, all_nil, all_nil, e718, hw⟩
    · intro i H724 hi hw
      obtain ⟨G727, acc729, vs730, L732, eG728, S725, h736, h726, w737, d731, nb733, nd734, eo735, hw⟩ := hw
      obtain ⟨z738, hw⟩ := cW_mapA (rng_get hi) hw
      generalize (0 + (i : Int)) = x739 at hw ⊢
      have hw := cW_noEr hw
      have hw : cW (F__pad_plane_c2 (acc698) (x739)) _ (fun _ => False) := hw
      unfold F__pad_plane_c2 at hw
      refine ⟨rfl, ?_⟩
      refine tyes_go ?_
      obtain ⟨g741, hw⟩ := cW_grd hw
      obtain ⟨v742, L743, a744, w745, hs746, up747, gr748⟩ := OwAll.partM (k := (-1)) w737 g741
      obtain ⟨b749, rfl, rfl, h750⟩ := Ow.toInts w745
      refine ⟨_, rfl, _, rfl, _, _, _, _, rfl, rfl, (SqL.of h736), a744, _, _, rfl, (SqL.of h750), fun p751 n752 => ?_⟩
      generalize g753 : upd H724 p751 _ = H754
      obtain ⟨e755, h756⟩ := gen_new n752 g753
      have h757 : H754 p751 = some (.lst (((itD (acc698) ((-1))) : (List Int)).map V.int)) := h756
      have fr758 := S725.free n752
      have S759 := S725.new n752 e755 h757 fr758
      have w760 : OwAll G727 H754 L732 (vs730) ((acc729 : (List (List Int))).map (oL oI)) := (OwAll.mono (Same.refl _) (keeps_same e755) d731)
      have h761 := (e755 _ _ h726)
      refine ⟨_, h761, (app_len (OwAll.rpA w760 (encO_L encO_I) S759.sG) z738), ?_⟩
      generalize g762 : upd H754 D711 _ = H763
      obtain ⟨x764, h765⟩ := gen_mut g762
      have S766 := S759.mut1 x764 (.tail _ (.head _)) h765
      have hw := cW_ok hw
      have h767 := (x764 _ _ (e755 _ _ h736) (ne_of_none h695 n712))
      have w768 : OwAll G727 H763 L701 (vs699) ((acc698 : (List (List Int))).map (oL oI)) := (OwAll.mono (Same.refl _) (keeps_mut x764 ((there_ne (fun b_ hb_ => (S694.ow b_ (((fun b hb => (.tail _ (List.mem_append_left _ hb))) : ∀ b ∈ L701, b ∈ (D615 :: (L701 ++ []))) b_ hb_)).2.1) n712) : ∀ b ∈ L701, b ≠ D711)) (OwAll.mono (Same.refl _) (keeps_same e755) w737))
      exact ⟨_, (acc729 ++ [(itD (acc698) ((-1)))]), _, (L732 ++ (p751 :: ([] : List Addr))), eG728, (S766.sub (all_cons (.tail _ (.head _)) (all_app (all_app ((fun b hb => (.tail _ (.tail _ (List.mem_append_left _ hb)))) : ∀ b ∈ L732, b ∈ (p751 :: (D711 :: (L732 ++ (D615 :: (L701 ++ [])))))) (all_cons (.head _) all_nil)) (all_cons (.tail _ (.tail _ (List.mem_append_right _ (.head _)))) (all_app ((fun b hb => (.tail _ (.tail _ (List.mem_append_right _ (.tail _ (List.mem_append_left _ hb)))))) : ∀ b ∈ L701, b ∈ (p751 :: (D711 :: (L732 ++ (D615 :: (L701 ++ [])))))) all_nil))))), h767, h765, w768, (OwAll.mono (Same.refl _) (keeps_mut x764 ((all_app nd734 (all_cons (ne_of_none h726 n752).symm all_nil)) : ∀ b ∈ (L732 ++ (p751 :: ([] : List Addr))), b ≠ D711)) (OwAll.snocM w760 (Ow.ints h757) ((fun b hb => (nm_cons ((there_ne (fun b_ hb_ => (S725.ow b_ (((fun b hb => (.tail _ (List.mem_append_left _ hb))) : ∀ b ∈ L732, b ∈ (D711 :: (L732 ++ (D615 :: (L701 ++ []))))) b_ hb_)).2.1) n752) b hb) nm_nil)) : ∀ b ∈ L732, b ∉ (p751 :: ([] : List Addr))))), ((all_app nb733 (all_cons (none_of_same eo735 n752) all_nil)) : ∀ b ∈ (L732 ++ (p751 :: ([] : List Addr))), H693 b = none), ((all_app nd734 (all_cons (ne_of_none h726 n752).symm all_nil)) : ∀ b ∈ (L732 ++ (p751 :: ([] : List Addr))), b ≠ D711), (same_mut (Same.trans eo735 e755) x764 n712), hw⟩
    intro H769 hw
    obtain ⟨G772, acc774, vs775, L777, eG773, S770, h781, h771, w782, d776, nb778, nd779, eo780, hw⟩ := hw
    have hw := hK710 _ (cW_mapA0 (rng_len _ _).symm hw)
    have fr783 := S694.free n712
    obtain ⟨g784, hw⟩ := cW_grd hw
    refine ⟨_, rfl, _, rfl, _, _, _, _, rfl, rfl, h781, h771, (cat_lenW w782 d776 g784), fun p785 n786 => ?_⟩
    generalize g787 : upd H769 p785 _ = H788
    obtain ⟨e789, h790⟩ := gen_new n786 g787
    have h791 : H788 p785 = some (.lst ((vs699) ++ (vs775))) := h790
    have fr793 := S770.free n786
    have S794 := S770.new n786 e789 h791 fr793
    have w795 : OwAll G772 H788 L701 (vs699) ((acc698 : (List (List Int))).map (oL oI)) := (OwAll.mono (Same.refl _) (keeps_same e789) w782)
    have w796 : OwAll G772 H788 L777 (vs775) ((acc774 : (List (List Int))).map (oL oI)) := (OwAll.mono (Same.refl _) (keeps_same e789) d776)
    have w792 := app_trees (((acc698) ++ (acc774) : (List (List Int)))) rfl w795 w796 ((fun b hb => ((nl_symm (new_nl nb778 (fun b_ hb_ => (S694.ow b_ (((fun b hb => (.tail _ (List.mem_append_left _ hb))) : ∀ b ∈ L701, b ∈ (D615 :: (L701 ++ []))) b_ hb_)).2.1))) b hb)) : ∀ b ∈ L701, b ∉ L777)
    have hw := cW_ok hw
    exact hK0 _ hw _ _ _ _ _ fr793 ((all_app (fun b hb => Sep.h0 S794 (((fun b hb => (.tail _ (.tail _ (List.mem_append_right _ (.tail _ (List.mem_append_left _ hb)))))) : ∀ b ∈ L701, b ∈ (p785 :: (D711 :: (L777 ++ (D615 :: (L701 ++ [])))))) b hb) nm_nil) (fun b hb => Sep.h0 S794 (((fun b hb => (.tail _ (.tail _ (List.mem_append_left _ hb)))) : ∀ b ∈ L777, b ∈ (p785 :: (D711 :: (L777 ++ (D615 :: (L701 ++ [])))))) b hb) nm_nil)) : ∀ b ∈ (L701 ++ L777), H b = none) ((all_app (there_ne (fun b_ hb_ => (S770.ow b_ (((fun b hb => (.tail _ (List.mem_append_right _ (.tail _ (List.mem_append_left _ hb))))) : ∀ b ∈ L701, b ∈ (D711 :: (L777 ++ (D615 :: (L701 ++ []))))) b_ hb_)).2.1) n786) (there_ne (fun b_ hb_ => (S770.ow b_ (((fun b hb => (.tail _ (List.mem_append_left _ hb))) : ∀ b ∈ L777, b ∈ (D711 :: (L777 ++ (D615 :: (L701 ++ []))))) b_ hb_)).2.1) n786)) : ∀ b ∈ (L701 ++ L777), b ≠ p785) S794.b0 S794.g0 S794.sG S794.gn (S794.ow _ (.head _)).1 ((all_app (fun b hb => (S794.ow b (((fun b hb => (.tail _ (.tail _ (List.mem_append_right _ (.tail _ (List.mem_append_left _ hb)))))) : ∀ b ∈ L701, b ∈ (p785 :: (D711 :: (L777 ++ (D615 :: (L701 ++ [])))))) b hb)).1) (fun b hb => (S794.ow b (((fun b hb => (.tail _ (.tail _ (List.mem_append_left _ hb)))) : ∀ b ∈ L777, b ∈ (p785 :: (D711 :: (L777 ++ (D615 :: (L701 ++ [])))))) b hb)).1)) : ∀ b ∈ (L701 ++ L777), G772 b = none) h791 w792

abbrev N_Format_blocks : List Str := ["self"]
theorem sc_Format_blocks : FnScope N_Format_blocks ["self"] (defScope s_Format_blocks) := ⟨rfl, rfl, rfl, by decide +kernel, rfl, by decide +kernel, by decide +kernel⟩
theorem ok_Format_blocks (D : MethX K AD.c_Format "Format.blocks" "blocks" s_Format_blocks ["self"] pats_Format_blocks) (T : Txt w K mg AD)  : MetX P w K mg base 1 AD.c_Format "blocks" (sp_Format_blocks K AD) pats_Format_blocks := by
  refine D.ok T.cl_Format sc_Format_blocks (fun vs H Q E h => ?_) (fun f cdv A_ outer s H vs Q E hr h => ?_)
  · obtain ⟨G, p_self, dx_self, self', rfl, _⟩ := h
    rfl
  · obtain ⟨G, p_self, dx_self, self', rfl, sG, h_p_self, hw⟩ := h
    refine ⟨_, (pss_one (ps_ret (pe_tup (pa_cons (pe_op op_fdivW (pe_op op_sub (pe_op op_add (fldK (K := K) (pv 0)) (C8.pe_gc rfl T.g_BLOCK)) pe_int) (C8.pe_gc rfl T.g_BLOCK)) (pa_cons (pe_op op_fdivW (pe_op op_sub (pe_op op_add (fldK (K := K) (pv 0)) (C8.pe_gc rfl T.g_BLOCK)) pe_int) (C8.pe_gc rfl T.g_BLOCK)) pa_nil))))), ?_⟩
    obtain ⟨KK, EE, hK0, hE, hw⟩ := cW_gen hw
    have S0 := Sep.startG sG
    unfold F_Format_blocks at hw
    refine ⟨_, rfl, _, _, _, _, _, rfl, (S0.bM _ _ h_p_self), T.cl_Format, T.n_Format_width, rfl, _, _, rfl, rfl, _, _, rfl, rfl, _, _, rfl, rfl, (divW_lit (by decide) (by decide)), _, rfl, _, _, _, _, _, rfl, (S0.bM _ _ h_p_self), T.cl_Format, T.n_Format_height, rfl, _, _, rfl, rfl, _, _, rfl, rfl, _, _, rfl, rfl, (divW_lit (by decide) (by decide)), (by show 2 ≤ sizeLine; decide), fun p797 n798 => ?_⟩
    generalize g799 : upd H p797 _ = H800
    obtain ⟨e801, h802⟩ := gen_new n798 g799
    have h803 : H800 p797 = some (.tup [V.int ((((self'.width + 8) - 1) / 8)), V.int ((((self'.height + 8) - 1) / 8))]) := h802
    have fr804 := S0.free n798
    obtain ⟨G806, eG807, hg808, S805⟩ := S0.grow n798 e801 h803 fr804
    have hw := cW_ok hw
    exact hK0 _ hw _ _ _ S805.b0 S805.g0 S805.sG S805.gn (rp_mk2 hg808 (.int _) (.int _))

abbrev N_Format_coded_size : List Str := ["self", "plane", "columns", "rows"]
theorem sc_Format_coded_size : FnScope N_Format_coded_size ["self", "plane"] (defScope s_Format_coded_size) := ⟨rfl, rfl, rfl, by decide +kernel, rfl, by decide +kernel, by decide +kernel⟩
theorem ok_Format_coded_size (D : MethX K AD.c_Format "Format.coded_size" "coded_size" s_Format_coded_size ["self", "plane"] pats_Format_coded_size) (T : Txt w K mg AD) (c_Format_blocks : MetX P w K mg base 1 AD.c_Format "blocks" (sp_Format_blocks K AD) pats_Format_blocks) (c_Format__plane_size : MetX P w K mg base 3 AD.c_Format "_plane_size" (sp_Format__plane_size K AD) pats_Format__plane_size) : MetX P w K mg base 4 AD.c_Format "coded_size" (sp_Format_coded_size K AD) pats_Format_coded_size := by
  refine D.ok T.cl_Format sc_Format_coded_size (fun vs H Q E h => ?_) (fun f cdv A_ outer s H vs Q E hr h => ?_)
  · obtain ⟨G, p_self, dx_self, self', plane', rfl, _⟩ := h
    rfl
  · obtain ⟨G, p_self, dx_self, self', plane', rfl, sG, h_p_self, hw⟩ := h
    refine ⟨_, (pss_cons (ps_asg (vx_methX0 c_Format_blocks pat_Format_blocks_0 (.head _) hr (by decide) (takes_of rfl rfl rfl rfl) (pv 0)) (pg_tupK (K := K) (n := 2) (pgs_cons (pg_name (i := 2) sc_Format_coded_size.nd rfl (Or.inl rfl)) (pgs_cons (pg_name (i := 3) sc_Format_coded_size.nd rfl (Or.inl rfl)) pgs_nil))))
      (pss_one (ps_ret (vx_methX c_Format__plane_size pat_Format__plane_size_0 (.head _) hr (by decide) (takes_of rfl rfl rfl rfl) (pv 0) (pa_cons (pv 1) (pa_cons (pe_op op_mul (pv 2) (C8.pe_gc rfl T.g_BLOCK)) (pa_cons (pe_op op_mul (pv 3) (C8.pe_gc rfl T.g_BLOCK)) pa_nil))) pk_nil)))), ?_⟩
    obtain ⟨KK, EE, hK0, hE, hw⟩ := cW_gen hw
    have S0 := Sep.startG sG
    unfold F_Format_coded_size at hw
    refine ⟨_, rfl, _, _, _, rfl, (S0.bM _ _ h_p_self), rfl, rfl, rfl, G, _, _, self', rfl, S0.sG, (hide_nil (S0.bM _ _ h_p_self)), cW_call hw (fun v809 hw v812 H810 G813 e811 eG814 sG815 hn816 r817 => ?_) (fun e he H2 e2 => hE e he H2 (Same.trans S0.b0 e2))⟩
    have S818 := S0.step e811 eG814 sG815 hn816
    obtain ⟨a819, v821, v822, rfl, h820, r823, r824⟩ := rp_tup2 r817
    obtain rfl := rp_int r823
    obtain rfl := rp_int r824
    refine ⟨_, _, rfl, (SqT.of (S818.sG _ _ h820)), rfl, _, _, rfl, _, _, rfl, rfl, _, rfl, _, _, _, rfl, (S818.bM _ _ h_p_self), rfl, _, rfl, _, rfl, _, _, rfl, rfl, (.inr ⟨by decide, by decide⟩), _, rfl, _, _, rfl, rfl, (.inr ⟨by decide, by decide⟩), rfl, rfl, G813, _, _, self', _, _, _, rfl, S818.sG, (hide_nil (S818.bM _ _ h_p_self)), cW_call hw (fun v825 hw v828 H826 G829 e827 eG830 sG831 hn832 r833 => ?_) (fun e he H2 e2 => hE e he H2 (Same.trans S818.b0 e2))⟩
    have S834 := S818.step e827 eG830 sG831 hn832
    obtain ⟨a835, v837, v838, rfl, h836, r839, r840⟩ := rp_tup2 r833
    obtain rfl := rp_int r839
    obtain rfl := rp_int r840
    have hw := cW_ok hw
    exact hK0 _ hw _ _ _ S834.b0 S834.g0 S834.sG S834.gn (rp_mk2 h836 (.int _) (.int _))

abbrev N__coded_sizes : List Str := ["fmt", "plane"]
theorem sc__coded_sizes : FnScope N__coded_sizes ["fmt"] (defScope s__coded_sizes) := ⟨rfl, rfl, rfl, by decide +kernel, rfl, by decide +kernel, by decide +kernel⟩
theorem ok__coded_sizes (D : DefX K mg "_coded_sizes" s__coded_sizes ["fmt"] pats__coded_sizes) (T : Txt w K mg AD) (c_Format_planes : PropY P w K mg base 1 AD.c_Format "planes" (sp_Format_planes K AD) pats_Format_planes) (c_Format_coded_size : MetX P w K mg base 4 AD.c_Format "coded_size" (sp_Format_coded_size K AD) pats_Format_coded_size) : CalX P w K mg base 5 "_coded_sizes" (sp__coded_sizes K AD) pats__coded_sizes := by
  refine D.ok sc__coded_sizes (fun vs H Q E h => ?_) (fun f cdv A_ outer s H vs Q E hr h => ?_)
  · obtain ⟨G, p_fmt, dx_fmt, fmt', rfl, _⟩ := h
    rfl
  · obtain ⟨G, p_fmt, dx_fmt, fmt', rfl, sG, h_p_fmt, hw⟩ := h
    refine ⟨_, (pss_one (ps_ret (pe_lc (own := [("plane", 1)]) (g := gName 1) (by rfl) sc__coded_sizes.nd (pi_range1 rfl T.b_range (pa_cons (vx_propX c_Format_planes hr (by decide) (pv 0)) pa_nil)) (blkOk_by (own := [("plane", 1)]) (N := N__coded_sizes) (sc := defScope s__coded_sizes) (by decide +kernel)) (fun _ _ _ _ _ => (pg_name (i := 1) sc__coded_sizes.nd rfl (Or.inl rfl))) (fun _ _ _ _ _ => pts_nil) (fun _ _ _ _ _ => (vx_methX c_Format_coded_size pat_Format_coded_size_0 (.head _) hr (by decide) takes0 (pv 0) (pa_cons (pv 1) pa_nil) pk_nil))))), ?_⟩
    obtain ⟨KK, EE, hK0, hE, hw⟩ := cW_gen hw
    have S0 := Sep.startG sG
    unfold F__coded_sizes at hw
    refine ⟨_, rfl, _, _, _, rfl, (S0.bM _ _ h_p_fmt), G, _, _, fmt', rfl, S0.sG, (hide_nil (S0.bM _ _ h_p_fmt)), cW_callN hw (fun v841 hw H842 e843 => ?_) trivial⟩
    have S844 := S0.same e843
    obtain ⟨g845, hw⟩ := cW_grd hw
    obtain ⟨K848, hK849, hw⟩ := cW_push hw
    refine ⟨_, rfl, g845.1, g845.2, fun D850 n851 => lc_range (lo := 0) (n := Int.toNat (v841)) (fun i H' => ∃ (G' : Hp) (acc853 : (List (Int × Int))) (vs854 : List V), Same G G' ∧ Sep [] H G G' H' [D850] ∧ H' D850 = some (.lst vs854) ∧ RpAll G' vs854 ((acc853 : (List (Int × Int))).map (encT2 PyData.int PyData.int)) ∧ Same H842 H' ∧ cW (mapA (List.drop i (rng (0) (Int.toNat (v841)))) acc853 (fun x => noEr (F__coded_sizes_c1 (fmt') x))) K848 EE) ?_ ?_ ?_⟩
    · generalize g855 : upd H842 D850 _ = H856
      obtain ⟨e857, h858⟩ := gen_new n851 g855
      have fr859 := S844.free n851
      have S860 := S844.new n851 e857 h858 fr859
      exact ⟨_, [], [], Same.refl _, S860, h858, RpAll.nil, e857, hw⟩
    · intro i H861 hi hw
      obtain ⟨G864, acc866, vs867, eG865, S862, h863, d868, eo872, hw⟩ := hw
      obtain ⟨z873, hw⟩ := cW_mapA (rng_get hi) hw
      generalize (0 + (i : Int)) = x874 at hw ⊢
      have hw := cW_noEr hw
      have hw : cW (F__coded_sizes_c1 (fmt') (x874)) _ (fun _ => False) := hw
      unfold F__coded_sizes_c1 at hw
      refine ⟨rfl, ?_⟩
      refine tyes_go ?_
      refine ⟨_, rfl, _, _, _, rfl, (S862.bM _ _ h_p_fmt), rfl, _, rfl, rfl, rfl, G864, _, _, fmt', _, rfl, S862.sG, (hide_nil (S862.bM _ _ h_p_fmt)), cW_call hw (fun v876 hw v879 H877 G880 e878 eG881 sG882 hn883 r884 => ?_) (fun e he => he.elim)⟩
      have S885 := S862.step e878 eG881 sG882 hn883
      obtain ⟨a886, v888, v889, rfl, h887, r890, r891⟩ := rp_tup2 r884
      obtain rfl := rp_int r890
      obtain rfl := rp_int r891
      have h892 := (e878 _ _ h863)
      refine ⟨_, h892, (app_len (RpAll.mono eG881 d868) z873), ?_⟩
      generalize g893 : upd H877 D850 _ = H894
      obtain ⟨x895, h896⟩ := gen_mut g893
      have S897 := S885.mut1 x895 (.head _) h896
      have hw := cW_ok hw
      exact ⟨_, (acc866 ++ [v876]), _, (Same.trans eG865 eG881), S897, h896, (app_map (RpAll.mono eG881 d868) (RpAll.one (rp_mk2 h887 (.int _) (.int _)))), (same_mut (Same.trans eo872 e878) x895 n851), hw⟩
    intro H898 hw
    obtain ⟨G901, acc903, vs904, eG902, S899, h900, d905, eo909, hw⟩ := hw
    have hw := hK849 _ (cW_mapA0 (rng_len _ _).symm hw)
    have fr910 := S844.free n851
    have hw := cW_ok hw
    exact hK0 _ hw _ _ _ _ fr910 S899.b0 S899.g0 S899.sG S899.gn (S899.ow _ (.head _)).1 h900 d905

abbrev N_pad_frame : List Str := ["fmt", "frame", "plane", "size"]
theorem sc_pad_frame : FnScope N_pad_frame ["fmt", "frame"] (defScope s_pad_frame) := ⟨rfl, rfl, rfl, by decide +kernel, rfl, by decide +kernel, by decide +kernel⟩
theorem ok_pad_frame (D : DefX K mg "pad_frame" s_pad_frame ["fmt", "frame"] pats_pad_frame) (T : Txt w K mg AD) (c_check_frame : CalX P w K mg base 6 "check_frame" (sp_check_frame K AD) pats_check_frame) (c__coded_sizes : CalX P w K mg base 5 "_coded_sizes" (sp__coded_sizes K AD) pats__coded_sizes) (c__pad_plane : CalX P w K mg base 1 "_pad_plane" (sp__pad_plane K AD) pats__pad_plane) : CalX P w K mg base 7 "pad_frame" (sp_pad_frame K AD) pats_pad_frame := by
  refine D.ok sc_pad_frame (fun vs H Q E h => ?_) (fun f cdv A_ outer s H vs Q E hr h => ?_)
  · obtain ⟨G, p_fmt, dx_fmt, fmt', v_frame, frame', rfl, _⟩ := h
    rfl
  · obtain ⟨G, p_fmt, dx_fmt, fmt', v_frame, frame', rfl, sG, h_p_fmt, r_frame, hw⟩ := h
    refine ⟨_, (pss_cons (ps_expr (vx_callX c_check_frame pat_check_frame_0 (.head _) hr (by decide) (takes_of rfl rfl rfl rfl) rfl (pa_cons (pv 0) (pa_cons (pv 1) pa_nil)) pk_nil))
      (pss_one (ps_ret (pe_lc (own := [("plane", 2), ("size", 3)]) (g := gTup K 2 (gCons (gName 2) (gCons (gName 3) gNil))) (by rfl) sc_pad_frame.nd (pi_zipK (K := K) rfl T.b_zip (pa_cons (pv 1) (pa_cons (vx_callX c__coded_sizes pat__coded_sizes_0 (.head _) hr (by decide) (takes_of rfl rfl rfl rfl) rfl (pa_cons (pv 0) pa_nil) pk_nil) pa_nil))) (blkOk_by (own := [("plane", 2), ("size", 3)]) (N := N_pad_frame) (sc := defScope s_pad_frame) (by decide +kernel)) (fun _ _ _ _ _ => (pg_tupK (K := K) (n := 2) (pgs_cons (pg_name (i := 2) sc_pad_frame.nd rfl (Or.inl rfl)) (pgs_cons (pg_name (i := 3) sc_pad_frame.nd rfl (Or.inl rfl)) pgs_nil)))) (fun _ _ _ _ _ => pts_nil) (fun _ _ _ _ _ => (vx_callX c__pad_plane pat__pad_plane_0 (.head _) hr (by decide) takes0 rfl (pa_cons (pv 2) (pa_cons (pv 3) pa_nil)) pk_nil)))))), ?_⟩
    obtain ⟨KK, EE, hK0, hE, hw⟩ := cW_gen hw
    have S0 := Sep.startG sG
    unfold F_pad_frame at hw
    obtain ⟨a911, vs912, rfl, h913, d914⟩ := rp_list r_frame
    refine ⟨_, rfl, _, rfl, rfl, rfl, G, _, _, fmt', _, _, rfl, S0.sG, (hide_nil (S0.bM _ _ h_p_fmt)), (Rp.hide_nil (rp_mk_list (S0.bM _ _ h913) (RpAll.mono S0.bM d914))), cW_call hw (fun v915 hw H916 e917 => ?_) (fun e he H2 e2 => hE e he H2 (Same.trans S0.b0 e2))⟩
    have S918 := S0.same e917
    refine ⟨_, rfl, _, rfl, rfl, rfl, G, _, _, fmt', rfl, S918.sG, (hide_nil (S918.bM _ _ h_p_fmt)), cW_call hw (fun v919 hw p922 vs923 H920 G924 n925 e921 eG926 sG927 hn928 gp929 h930 d931 => ?_) (fun e he H2 e2 => hE e he H2 (Same.trans S918.b0 e2))⟩
    have fr933 := S918.free n925
    have S932 := S918.stepnew e921 eG926 sG927 hn928 n925 h930 gp929 fr933
    obtain ⟨K935, hK936, hw⟩ := cW_push hw
    refine ⟨_, _, _, _, rfl, .inl ⟨(SqL.of (S932.bM _ _ h913)), (SqL.of h930), fun D937 n938 => lc_zipM (K := K) (a := a911) (b := p922) (xs := vs912) (ys := vs923) (min ((frame' : (List (List (List Int)))).length) ((v919 : (List (Int × Int))).length)) (zipM_n (by rw [d914.len, List.length_map]) (by rw [d931.len, List.length_map])) (fun i H' => ∃ (G' : Hp) (acc940 : (List (List (List Int)))) (vs941 : List V) (L939 : List Addr), Same G924 G' ∧ Sep [] H G G' H' (D937 :: (L939 ++ (p922 :: []))) ∧ H' p922 = some (.lst (vs923)) ∧ H' D937 = some (.lst vs941) ∧ OwAll G' H' L939 vs941 ((acc940 : (List (List (List Int)))).map (oL (oL oI))) ∧ (∀ b ∈ L939, H920 b = none) ∧ (∀ b ∈ L939, b ≠ D937) ∧ Same H920 H' ∧ cW (mapA (List.drop i (List.zip (frame') (v919))) acc940 (fun x => noEr (F_pad_frame_c1  x))) K935 EE) ?_ ?_ ?_ ?_⟩⟩
    · generalize g942 : upd H920 D937 _ = H943
      obtain ⟨e944, h945⟩ := gen_new n938 g942
      have fr946 := S932.free n938
      have S947 := S932.new n938 e944 h945 fr946
      have h948 := (e944 _ _ h930)
      exact ⟨_, [], [], [], Same.refl _, (S947.sub (all_cons (.head _) (all_app (L := []) all_nil (all_cons (.tail _ (.head _)) all_nil)))), h948, h945, OwAll.nil, all_nil, all_nil, e944, hw⟩
    · intro i H949 _ hw
      obtain ⟨G952, acc954, vs955, L957, eG953, S950, h961, h951, d956, nb958, nd959, eo960, hw⟩ := hw
      exact ⟨(SqL.of (S950.bM _ _ h913)), (SqL.of h961)⟩
    · intro i x y T964 H962 hj hj2 n963 hw
      obtain ⟨G967, acc969, vs970, L972, eG968, S965, h976, h966, d971, nb973, nd974, eo975, hw⟩ := hw
      obtain ⟨x977, hx978, r979⟩ := RpAll.get d914 hj
      obtain ⟨a980, vs981, rfl, h982, d983⟩ := rp_list r979
      obtain ⟨x984, hx985, r986⟩ := RpAll.get (RpAll.mono eG968 d931) hj2
      obtain ⟨a987, v989, v990, rfl, h988, r991, r992⟩ := rp_tup2 r986
      obtain rfl := rp_int r991
      obtain rfl := rp_int r992
      generalize g993 : upd H962 T964 _ = H994
      obtain ⟨e995, h996⟩ := gen_new n963 g993
      have h997 : H994 T964 = some (.tup [V.ref a980, V.ref a987]) := h996
      have fr998 := S965.free n963
      obtain ⟨G1000, eG1001, hg1002, S999⟩ := S965.grow n963 e995 h997 fr998
      obtain ⟨z1003, hw⟩ := cW_mapA (zip_get hx978 hx985) hw
      have hw := cW_noEr hw
      have hw : cW (F_pad_frame_c1  ((x977, x984))) _ (fun _ => False) := hw
      unfold F_pad_frame_c1 at hw
      refine ⟨_, _, rfl, (SqT.of (S999.sG _ _ hg1002)), rfl, _, _, rfl, _, _, rfl, rfl, rfl, ?_⟩
      refine tyes_go ?_
      refine ⟨_, rfl, _, rfl, rfl, rfl, G1000, _, _, _, _, rfl, S999.sG, (Rp.hide_nil (rp_mk_list (S999.bM _ _ h982) (RpAll.mono S999.bM d983))), (Rp.hide_nil (rp_mk2 (S999.sG _ _ (eG1001 _ _ h988)) (.int _) (.int _))), cW_call hw (fun v1005 hw H1006 a1008 vs1009 L1010 G1011 n1012 nb1013 nd1014 e1007 eG1015 sG1016 hn1017 ga1018 gL1019 h1020 w1021 => ?_) (fun e he => he.elim)⟩
      have fr1022 := S999.free n1012
      have S1023 : Sep _ _ _ _ H1006 (a1008 :: (L1010 ++ (D937 :: (L972 ++ (p922 :: []))))) := Sep.steptree S999 e1007 eG1015 sG1016 hn1017 (a1008 :: L1010) (all_cons ⟨n1012, ga1018, some_ne h1020⟩ (fun b hb => ⟨nb1013 b hb, gL1019 b hb, OwAll.there w1021 b hb⟩))
      have w1024 : OwAll G1011 H1006 L972 (vs970) ((acc969 : (List (List (List Int)))).map (oL (oL oI))) := (OwAll.mono (Same.trans eG1001 eG1015) keeps_refl (OwAll.mono (Same.refl _) (keeps_same e1007) (OwAll.mono (Same.refl _) (keeps_same e995) d971)))
      have h1025 := (e1007 _ _ (e995 _ _ h966))
      refine ⟨_, h1025, (app_len (OwAll.rpA w1024 (encO_L (encO_L encO_I)) S1023.sG) z1003), ?_⟩
      generalize g1026 : upd H1006 D937 _ = H1027
      obtain ⟨x1028, h1029⟩ := gen_mut g1026
      have S1030 := S1023.mut1 x1028 (.tail _ (List.mem_append_right _ (.head _))) h1029
      have hw := cW_ok hw
      have h1031 := (x1028 _ _ (e1007 _ _ (e995 _ _ h976)) (ne_of_none h930 n938))
      exact ⟨_, (acc969 ++ [v1005]), _, (L972 ++ (a1008 :: L1010)), (Same.trans (Same.trans eG968 eG1001) eG1015), (S1030.sub (all_cons (.tail _ (List.mem_append_right _ (.head _))) (all_app (all_app ((fun b hb => (.tail _ (List.mem_append_right _ (.tail _ (List.mem_append_left _ hb))))) : ∀ b ∈ L972, b ∈ (a1008 :: (L1010 ++ (D937 :: (L972 ++ (p922 :: [])))))) (all_cons (.head _) ((fun b hb => (.tail _ (List.mem_append_left _ hb))) : ∀ b ∈ L1010, b ∈ (a1008 :: (L1010 ++ (D937 :: (L972 ++ (p922 :: [])))))))) (all_cons (.tail _ (List.mem_append_right _ (.tail _ (List.mem_append_right _ (.head _))))) all_nil)))), h1031, h1029, (OwAll.mono (Same.refl _) (keeps_mut x1028 ((all_app nd974 (all_cons (ne_of_none (e995 _ _ h966) n1012).symm (new_ne2 nb1013 (S999.ow _ (.head _)).2.1))) : ∀ b ∈ (L972 ++ (a1008 :: L1010)), b ≠ D937)) (OwAll.snocM w1024 (Ow.list h1020 w1021 (nd1014 : ∀ b ∈ L1010, b ≠ a1008)) ((fun b hb => (nm_cons ((there_ne (fun b_ hb_ => (S999.ow b_ (((fun b hb => (.tail _ (List.mem_append_left _ hb))) : ∀ b ∈ L972, b ∈ (D937 :: (L972 ++ (p922 :: [])))) b_ hb_)).2.1) n1012) b hb) ((nl_symm (new_nl nb1013 (fun b_ hb_ => (S999.ow b_ (((fun b hb => (.tail _ (List.mem_append_left _ hb))) : ∀ b ∈ L972, b ∈ (D937 :: (L972 ++ (p922 :: [])))) b_ hb_)).2.1))) b hb))) : ∀ b ∈ L972, b ∉ (a1008 :: L1010)))), ((all_app nb973 (all_cons (none_of_same (Same.trans eo975 e995) n1012) (fun b hb => none_of_same (Same.trans eo975 e995) (nb1013 b hb)))) : ∀ b ∈ (L972 ++ (a1008 :: L1010)), H920 b = none), ((all_app nd974 (all_cons (ne_of_none (e995 _ _ h966) n1012).symm (new_ne2 nb1013 (S999.ow _ (.head _)).2.1))) : ∀ b ∈ (L972 ++ (a1008 :: L1010)), b ≠ D937), (same_mut (Same.trans (Same.trans eo975 e995) e1007) x1028 n938), hw⟩
    intro H1032 hw
    obtain ⟨G1035, acc1037, vs1038, L1040, eG1036, S1033, h1044, h1034, d1039, nb1041, nd1042, eo1043, hw⟩ := hw
    have hw := hK936 _ (cW_mapA0 zipM_len hw)
    have fr1045 := S932.free n938
    have hw := cW_ok hw
    exact hK0 _ hw _ _ _ _ _ fr1045 ((fun b hb => Sep.h0 S1033 (((fun b hb => (.tail _ (List.mem_append_left _ hb))) : ∀ b ∈ L1040, b ∈ (D937 :: (L1040 ++ (p922 :: [])))) b hb) nm_nil) : ∀ b ∈ L1040, H b = none) (nd1042 : ∀ b ∈ L1040, b ≠ D937) S1033.b0 S1033.g0 S1033.sG S1033.gn (S1033.ow _ (.head _)).1 ((fun b hb => (S1033.ow b (((fun b hb => (.tail _ (List.mem_append_left _ hb))) : ∀ b ∈ L1040, b ∈ (D937 :: (L1040 ++ (p922 :: [])))) b hb)).1) : ∀ b ∈ L1040, G1035 b = none) h1034 d1039

abbrev N__crop_plane : List Str := ["plane", "size", "width", "height", "row"]
theorem sc__crop_plane : FnScope N__crop_plane ["plane", "size"] (defScope s__crop_plane) := ⟨rfl, rfl, rfl, by decide +kernel, rfl, by decide +kernel, by decide +kernel⟩
theorem ok__crop_plane (D : DefX K mg "_crop_plane" s__crop_plane ["plane", "size"] pats__crop_plane) (T : Txt w K mg AD)  : CalX P w K mg base 1 "_crop_plane" (sp__crop_plane K AD) pats__crop_plane := by
  refine D.ok sc__crop_plane (fun vs H Q E h => ?_) (fun f cdv A_ outer s H vs Q E hr h => ?_)
  · obtain ⟨G, v_plane, plane', v_size, size', rfl, _⟩ := h
    rfl
  · obtain ⟨G, v_plane, plane', v_size, size', rfl, sG, r_plane, r_size, hw⟩ := h
    refine ⟨_, (pss_cons (ps_asg (pv 1) (pg_tupK (K := K) (n := 2) (pgs_cons (pg_name (i := 2) sc__crop_plane.nd rfl (Or.inr rfl)) (pgs_cons (pg_name (i := 3) sc__crop_plane.nd rfl (Or.inl rfl)) pgs_nil))))
      (pss_one (ps_ret (pe_lc (own := [("row", 4)]) (g := gName 4) (by rfl) sc__crop_plane.nd (pi_listK (K := K) (pe_slice (sl_listK (K := K)) (pv 0) po_none (po_some (pv 3)))) (blkOk_by (own := [("row", 4)]) (N := N__crop_plane) (sc := defScope s__crop_plane) (by decide +kernel)) (fun _ _ _ _ _ => (pg_name (i := 4) sc__crop_plane.nd rfl (Or.inl rfl))) (fun _ _ _ _ _ => pts_nil) (fun _ _ _ _ _ => (pe_slice (sl_listK (K := K)) (pv 4) po_none (po_some (pv 2)))))))), ?_⟩
    obtain ⟨KK, EE, hK0, hE, hw⟩ := cW_gen hw
    have S0 := Sep.startG sG
    unfold F__crop_plane at hw
    obtain ⟨a1046, vs1047, rfl, h1048, d1049⟩ := rp_list r_plane
    obtain ⟨a1050, v1052, v1053, rfl, h1051, r1054, r1055⟩ := rp_tup2 r_size
    obtain rfl := rp_int r1054
    obtain rfl := rp_int r1055
    refine ⟨_, rfl, _, _, rfl, (SqT.of (S0.bM _ _ h1051)), rfl, _, _, rfl, _, _, rfl, rfl, _, rfl, _, rfl, _, rfl, _, _, rfl, (SqL.of (S0.bM _ _ h1048)), fun p1056 n1057 => ?_⟩
    generalize g1058 : upd H p1056 _ = H1059
    obtain ⟨e1060, h1061⟩ := gen_new n1057 g1058
    have h1062 : H1059 p1056 = some (.lst (cutV (vs1047) none (some (size'.2)))) := h1061
    have fr1064 := S0.free n1057
    have S1065 := S0.new n1057 e1060 h1062 fr1064
    obtain ⟨G1066, eG1067, hg1068, S1069⟩ := Sep.freeze (O' := []) S1065 (.head _) h1062 fr1064 (all_nil)
    have d1063 : RpAll (hideL [] H) (cutV (vs1047) none (some (size'.2))) ((cutL (plane') none (some (size'.2)) : (List (List Int))).map (encL PyData.int)) := cut_all none (some (size'.2)) d1049
    obtain ⟨K1072, hK1073, hw⟩ := cW_push hw
    refine ⟨_, rfl, ⟨_, (SqL.of (S1069.sG _ _ hg1068))⟩, fun D1074 n1075 => lc_list (K := K) (a := p1056) (xs := cutV (vs1047) none (some (size'.2))) (fun i H' => ∃ (G' : Hp) (acc1077 : (List (List Int))) (vs1078 : List V) (L1076 : List Addr), Same G1066 G' ∧ Sep [] H G G' H' (D1074 :: (L1076 ++ [])) ∧ H' D1074 = some (.lst vs1078) ∧ OwAll G' H' L1076 vs1078 ((acc1077 : (List (List Int))).map (oL oI)) ∧ (∀ b ∈ L1076, H1059 b = none) ∧ (∀ b ∈ L1076, b ≠ D1074) ∧ Same H1059 H' ∧ cW (mapA (List.drop i (cutL (plane') none (some (size'.2)))) acc1077 (fun x => noEr (F__crop_plane_c1 (size'.1) x))) K1072 EE) ?_ ?_ ?_ ?_⟩
    · generalize g1079 : upd H1059 D1074 _ = H1080
      obtain ⟨e1081, h1082⟩ := gen_new n1075 g1079
      have fr1083 := S1069.free n1075
      have S1084 := S1069.new n1075 e1081 h1082 fr1083
      exact ⟨_, [], [], [], Same.refl _, (S1084.sub (all_cons (.head _) (all_app (L := []) all_nil all_nil))), h1082, OwAll.nil, all_nil, all_nil, e1081, hw⟩
    · intro i H1085 _ hw
      obtain ⟨G1088, acc1090, vs1091, L1093, eG1089, S1086, h1087, d1092, nb1094, nd1095, eo1096, hw⟩ := hw
      exact (SqL.of (S1086.sG _ _ (eG1089 _ _ hg1068)))
    · intro i x H1097 hj hw
      obtain ⟨G1100, acc1102, vs1103, L1105, eG1101, S1098, h1099, d1104, nb1106, nd1107, eo1108, hw⟩ := hw
      obtain ⟨x1109, hx, r1110⟩ := RpAll.get d1063 hj
      obtain ⟨a1111, rfl, h1112⟩ := rp_ints r1110
      obtain ⟨z1113, hw⟩ := cW_mapA hx hw
      have hw := cW_noEr hw
      have hw : cW (F__crop_plane_c1 (size'.1) (x1109)) _ (fun _ => False) := hw
      unfold F__crop_plane_c1 at hw
      refine ⟨rfl, ?_⟩
      refine tyes_go ?_
      refine ⟨_, rfl, _, rfl, _, rfl, _, _, rfl, (SqL.of (S1098.bM _ _ h1112)), fun p1115 n1116 => ?_⟩
      generalize g1117 : upd H1097 p1115 _ = H1118
      obtain ⟨e1119, h1120⟩ := gen_new n1116 g1117
      have h1121 : H1118 p1115 = some (.lst ((cutL (x1109) none (some (size'.1)) : (List Int)).map V.int)) := cut_map h1120
      have fr1122 := S1098.free n1116
      have S1123 := S1098.new n1116 e1119 h1121 fr1122
      have w1124 : OwAll G1100 H1118 L1105 (vs1103) ((acc1102 : (List (List Int))).map (oL oI)) := (OwAll.mono (Same.refl _) (keeps_same e1119) d1104)
      have h1125 := (e1119 _ _ h1099)
      refine ⟨_, h1125, (app_len (OwAll.rpA w1124 (encO_L encO_I) S1123.sG) z1113), ?_⟩
      generalize g1126 : upd H1118 D1074 _ = H1127
      obtain ⟨x1128, h1129⟩ := gen_mut g1126
      have S1130 := S1123.mut1 x1128 (.tail _ (.head _)) h1129
      have hw := cW_ok hw
      exact ⟨_, (acc1102 ++ [cutL (x1109) none (some (size'.1))]), _, (L1105 ++ (p1115 :: ([] : List Addr))), eG1101, (S1130.sub (all_cons (.tail _ (.head _)) (all_app (all_app ((fun b hb => (.tail _ (.tail _ (List.mem_append_left _ hb)))) : ∀ b ∈ L1105, b ∈ (p1115 :: (D1074 :: (L1105 ++ [])))) (all_cons (.head _) all_nil)) all_nil))), h1129, (OwAll.mono (Same.refl _) (keeps_mut x1128 ((all_app nd1107 (all_cons (ne_of_none h1099 n1116).symm all_nil)) : ∀ b ∈ (L1105 ++ (p1115 :: ([] : List Addr))), b ≠ D1074)) (OwAll.snocM w1124 (Ow.ints h1121) ((fun b hb => (nm_cons ((there_ne (fun b_ hb_ => (S1098.ow b_ (((fun b hb => (.tail _ (List.mem_append_left _ hb))) : ∀ b ∈ L1105, b ∈ (D1074 :: (L1105 ++ []))) b_ hb_)).2.1) n1116) b hb) nm_nil)) : ∀ b ∈ L1105, b ∉ (p1115 :: ([] : List Addr))))), ((all_app nb1106 (all_cons (none_of_same eo1108 n1116) all_nil)) : ∀ b ∈ (L1105 ++ (p1115 :: ([] : List Addr))), H1059 b = none), ((all_app nd1107 (all_cons (ne_of_none h1099 n1116).symm all_nil)) : ∀ b ∈ (L1105 ++ (p1115 :: ([] : List Addr))), b ≠ D1074), (same_mut (Same.trans eo1108 e1119) x1128 n1075), hw⟩
    intro H1131 hw
    obtain ⟨G1134, acc1136, vs1137, L1139, eG1135, S1132, h1133, d1138, nb1140, nd1141, eo1142, hw⟩ := hw
    have hw := hK1073 _ (cW_mapA0 (by rw [d1063.len, List.length_map]) hw)
    have fr1143 := S1069.free n1075
    have hw := cW_ok hw
    exact hK0 _ hw _ _ _ _ _ fr1143 ((fun b hb => Sep.h0 S1132 (((fun b hb => (.tail _ (List.mem_append_left _ hb))) : ∀ b ∈ L1139, b ∈ (D1074 :: (L1139 ++ []))) b hb) nm_nil) : ∀ b ∈ L1139, H b = none) (nd1141 : ∀ b ∈ L1139, b ≠ D1074) S1132.b0 S1132.g0 S1132.sG S1132.gn (S1132.ow _ (.head _)).1 ((fun b hb => (S1132.ow b (((fun b hb => (.tail _ (List.mem_append_left _ hb))) : ∀ b ∈ L1139, b ∈ (D1074 :: (L1139 ++ []))) b hb)).1) : ∀ b ∈ L1139, G1134 b = none) h1133 d1138

abbrev N_crop_planes : List Str := ["fmt", "planes", "plane", "size"]
theorem sc_crop_planes : FnScope N_crop_planes ["fmt", "planes"] (defScope s_crop_planes) := ⟨rfl, rfl, rfl, by decide +kernel, rfl, by decide +kernel, by decide +kernel⟩
theorem ok_crop_planes (D : DefX K mg "crop_planes" s_crop_planes ["fmt", "planes"] pats_crop_planes) (T : Txt w K mg AD) (c__check_shape : CalX P w K mg base 1 "_check_shape" (sp__check_shape K AD) pats__check_shape) (c__coded_sizes : CalX P w K mg base 5 "_coded_sizes" (sp__coded_sizes K AD) pats__coded_sizes) (c__sizes : CalX P w K mg base 5 "_sizes" (sp__sizes K AD) pats__sizes) (c__crop_plane : CalX P w K mg base 1 "_crop_plane" (sp__crop_plane K AD) pats__crop_plane) : CalX P w K mg base 6 "crop_planes" (sp_crop_planes K AD) pats_crop_planes := by
  refine D.ok sc_crop_planes (fun vs H Q E h => ?_) (fun f cdv A_ outer s H vs Q E hr h => ?_)
  · obtain ⟨G, p_fmt, dx_fmt, fmt', v_planes, planes', rfl, _⟩ := h
    rfl
  · obtain ⟨G, p_fmt, dx_fmt, fmt', v_planes, planes', rfl, sG, h_p_fmt, r_planes, hw⟩ := h
    refine ⟨_, (pss_cons (ps_expr (vx_callX c__check_shape pat__check_shape_0 (.head _) hr (by decide) (takes_of rfl rfl rfl rfl) rfl (pa_cons (pv 1) (pa_cons (vx_callX c__coded_sizes pat__coded_sizes_0 (.head _) hr (by decide) (takes_of rfl rfl rfl rfl) rfl (pa_cons (pv 0) pa_nil) pk_nil) pa_nil)) pk_nil))
      (pss_one (ps_ret (pe_lc (own := [("plane", 2), ("size", 3)]) (g := gTup K 2 (gCons (gName 2) (gCons (gName 3) gNil))) (by rfl) sc_crop_planes.nd (pi_zipK (K := K) rfl T.b_zip (pa_cons (pv 1) (pa_cons (vx_callX c__sizes pat__sizes_0 (.head _) hr (by decide) (takes_of rfl rfl rfl rfl) rfl (pa_cons (pv 0) pa_nil) pk_nil) pa_nil))) (blkOk_by (own := [("plane", 2), ("size", 3)]) (N := N_crop_planes) (sc := defScope s_crop_planes) (by decide +kernel)) (fun _ _ _ _ _ => (pg_tupK (K := K) (n := 2) (pgs_cons (pg_name (i := 2) sc_crop_planes.nd rfl (Or.inl rfl)) (pgs_cons (pg_name (i := 3) sc_crop_planes.nd rfl (Or.inl rfl)) pgs_nil)))) (fun _ _ _ _ _ => pts_nil) (fun _ _ _ _ _ => (vx_callX c__crop_plane pat__crop_plane_0 (.head _) hr (by decide) takes0 rfl (pa_cons (pv 2) (pa_cons (pv 3) pa_nil)) pk_nil)))))), ?_⟩
    obtain ⟨KK, EE, hK0, hE, hw⟩ := cW_gen hw
    have S0 := Sep.startG sG
    unfold F_crop_planes at hw
    obtain ⟨a1144, vs1145, rfl, h1146, d1147⟩ := rp_list r_planes
    refine ⟨_, rfl, _, rfl, rfl, rfl, G, _, _, fmt', rfl, S0.sG, (hide_nil (S0.bM _ _ h_p_fmt)), cW_call hw (fun v1148 hw p1151 vs1152 H1149 G1153 n1154 e1150 eG1155 sG1156 hn1157 gp1158 h1159 d1160 => ?_) (fun e he H2 e2 => hE e he H2 (Same.trans S0.b0 e2))⟩
    have fr1162 := S0.free n1154
    have S1161 := S0.stepnew e1150 eG1155 sG1156 hn1157 n1154 h1159 gp1158 fr1162
    refine ⟨rfl, rfl, G1153, _, _, _, _, rfl, S1161.sG, (Rp.hide_nil (rp_mk_list (S1161.bM _ _ h1146) (RpAll.mono S1161.bM d1147))), (Rp.hide_nil (rp_mk_list h1159 (RpAll.mono S1161.sG d1160))), cW_call hw (fun v1163 hw H1164 e1165 => ?_) (fun e he H2 e2 => hE e he H2 (Same.trans S1161.b0 e2))⟩
    have S1166 := S1161.same e1165
    refine ⟨_, rfl, _, rfl, rfl, rfl, G1153, _, _, fmt', rfl, S1166.sG, (hide_nil (S1166.bM _ _ h_p_fmt)), cW_call hw (fun v1167 hw p1170 vs1171 H1168 G1172 n1173 e1169 eG1174 sG1175 hn1176 gp1177 h1178 d1179 => ?_) (fun e he H2 e2 => hE e he H2 (Same.trans S1166.b0 e2))⟩
    have fr1181 := S1166.free n1173
    have S1180 := S1166.stepnew e1169 eG1174 sG1175 hn1176 n1173 h1178 gp1177 fr1181
    obtain ⟨K1183, hK1184, hw⟩ := cW_push hw
    refine ⟨_, _, _, _, rfl, .inl ⟨(SqL.of (S1180.bM _ _ h1146)), (SqL.of h1178), fun D1185 n1186 => lc_zipM (K := K) (a := a1144) (b := p1170) (xs := vs1145) (ys := vs1171) (min ((planes' : (List (List (List Int)))).length) ((v1167 : (List (Int × Int))).length)) (zipM_n (by rw [d1147.len, List.length_map]) (by rw [d1179.len, List.length_map])) (fun i H' => ∃ (G' : Hp) (acc1188 : (List (List (List Int)))) (vs1189 : List V) (L1187 : List Addr), Same G1172 G' ∧ Sep [] H G G' H' (D1185 :: (L1187 ++ (p1170 :: []))) ∧ H' p1170 = some (.lst (vs1171)) ∧ H' D1185 = some (.lst vs1189) ∧ OwAll G' H' L1187 vs1189 ((acc1188 : (List (List (List Int)))).map (oL (oL oI))) ∧ (∀ b ∈ L1187, H1168 b = none) ∧ (∀ b ∈ L1187, b ≠ D1185) ∧ Same H1168 H' ∧ cW (mapA (List.drop i (List.zip (planes') (v1167))) acc1188 (fun x => noEr (F_crop_planes_c1  x))) K1183 EE) ?_ ?_ ?_ ?_⟩⟩
    · generalize g1190 : upd H1168 D1185 _ = H1191
      obtain ⟨e1192, h1193⟩ := gen_new n1186 g1190
      have fr1194 := S1180.free n1186
      have S1195 := S1180.new n1186 e1192 h1193 fr1194
      have h1196 := (e1192 _ _ h1178)
      exact ⟨_, [], [], [], Same.refl _, (S1195.sub (all_cons (.head _) (all_app (L := []) all_nil (all_cons (.tail _ (.head _)) all_nil)))), h1196, h1193, OwAll.nil, all_nil, all_nil, e1192, hw⟩
    · intro i H1197 _ hw
      obtain ⟨G1200, acc1202, vs1203, L1205, eG1201, S1198, h1209, h1199, d1204, nb1206, nd1207, eo1208, hw⟩ := hw
      exact ⟨(SqL.of (S1198.bM _ _ h1146)), (SqL.of h1209)⟩
    · intro i x y T1212 H1210 hj hj2 n1211 hw
      obtain ⟨G1215, acc1217, vs1218, L1220, eG1216, S1213, h1224, h1214, d1219, nb1221, nd1222, eo1223, hw⟩ := hw
      obtain ⟨x1225, hx1226, r1227⟩ := RpAll.get d1147 hj
      obtain ⟨a1228, vs1229, rfl, h1230, d1231⟩ := rp_list r1227
      obtain ⟨x1232, hx1233, r1234⟩ := RpAll.get (RpAll.mono eG1216 d1179) hj2
      obtain ⟨a1235, v1237, v1238, rfl, h1236, r1239, r1240⟩ := rp_tup2 r1234
      obtain rfl := rp_int r1239
      obtain rfl := rp_int r1240
      generalize g1241 : upd H1210 T1212 _ = H1242
      obtain ⟨e1243, h1244⟩ := gen_new n1211 g1241
      have h1245 : H1242 T1212 = some (.tup [V.ref a1228, V.ref a1235]) := h1244
      have fr1246 := S1213.free n1211
      obtain ⟨G1248, eG1249, hg1250, S1247⟩ := S1213.grow n1211 e1243 h1245 fr1246
      obtain ⟨z1251, hw⟩ := cW_mapA (zip_get hx1226 hx1233) hw
      have hw := cW_noEr hw
      have hw : cW (F_crop_planes_c1  ((x1225, x1232))) _ (fun _ => False) := hw
      unfold F_crop_planes_c1 at hw
      refine ⟨_, _, rfl, (SqT.of (S1247.sG _ _ hg1250)), rfl, _, _, rfl, _, _, rfl, rfl, rfl, ?_⟩
      refine tyes_go ?_
      refine ⟨_, rfl, _, rfl, rfl, rfl, G1248, _, _, _, _, rfl, S1247.sG, (Rp.hide_nil (rp_mk_list (S1247.bM _ _ h1230) (RpAll.mono S1247.bM d1231))), (Rp.hide_nil (rp_mk2 (S1247.sG _ _ (eG1249 _ _ h1236)) (.int _) (.int _))), cW_call hw (fun v1253 hw H1254 a1256 vs1257 L1258 G1259 n1260 nb1261 nd1262 e1255 eG1263 sG1264 hn1265 ga1266 gL1267 h1268 w1269 => ?_) (fun e he => he.elim)⟩
      have fr1270 := S1247.free n1260
      have S1271 : Sep _ _ _ _ H1254 (a1256 :: (L1258 ++ (D1185 :: (L1220 ++ (p1170 :: []))))) := Sep.steptree S1247 e1255 eG1263 sG1264 hn1265 (a1256 :: L1258) (all_cons ⟨n1260, ga1266, some_ne h1268⟩ (fun b hb => ⟨nb1261 b hb, gL1267 b hb, OwAll.there w1269 b hb⟩))
      have w1272 : OwAll G1259 H1254 L1220 (vs1218) ((acc1217 : (List (List (List Int)))).map (oL (oL oI))) := (OwAll.mono (Same.trans eG1249 eG1263) keeps_refl (OwAll.mono (Same.refl _) (keeps_same e1255) (OwAll.mono (Same.refl _) (keeps_same e1243) d1219)))
      have h1273 := (e1255 _ _ (e1243 _ _ h1214))
      refine ⟨_, h1273, (app_len (OwAll.rpA w1272 (encO_L (encO_L encO_I)) S1271.sG) z1251), ?_⟩
      generalize g1274 : upd H1254 D1185 _ = H1275
      obtain ⟨x1276, h1277⟩ := gen_mut g1274
      have S1278 := S1271.mut1 x1276 (.tail _ (List.mem_append_right _ (.head _))) h1277
      have hw := cW_ok hw
      have h1279 := (x1276 _ _ (e1255 _ _ (e1243 _ _ h1224)) (ne_of_none h1178 n1186))
      exact ⟨_, (acc1217 ++ [v1253]), _, (L1220 ++ (a1256 :: L1258)), (Same.trans (Same.trans eG1216 eG1249) eG1263), (S1278.sub (all_cons (.tail _ (List.mem_append_right _ (.head _))) (all_app (all_app ((fun b hb => (.tail _ (List.mem_append_right _ (.tail _ (List.mem_append_left _ hb))))) : ∀ b ∈ L1220, b ∈ (a1256 :: (L1258 ++ (D1185 :: (L1220 ++ (p1170 :: [])))))) (all_cons (.head _) ((fun b hb => (.tail _ (List.mem_append_left _ hb))) : ∀ b ∈ L1258, b ∈ (a1256 :: (L1258 ++ (D1185 :: (L1220 ++ (p1170 :: [])))))))) (all_cons (.tail _ (List.mem_append_right _ (.tail _ (List.mem_append_right _ (.head _))))) all_nil)))), h1279, h1277, (OwAll.mono (Same.refl _) (keeps_mut x1276 ((all_app nd1222 (all_cons (ne_of_none (e1243 _ _ h1214) n1260).symm (new_ne2 nb1261 (S1247.ow _ (.head _)).2.1))) : ∀ b ∈ (L1220 ++ (a1256 :: L1258)), b ≠ D1185)) (OwAll.snocM w1272 (Ow.list h1268 w1269 (nd1262 : ∀ b ∈ L1258, b ≠ a1256)) ((fun b hb => (nm_cons ((there_ne (fun b_ hb_ => (S1247.ow b_ (((fun b hb => (.tail _ (List.mem_append_left _ hb))) : ∀ b ∈ L1220, b ∈ (D1185 :: (L1220 ++ (p1170 :: [])))) b_ hb_)).2.1) n1260) b hb) ((nl_symm (new_nl nb1261 (fun b_ hb_ => (S1247.ow b_ (((fun b hb => (.tail _ (List.mem_append_left _ hb))) : ∀ b ∈ L1220, b ∈ (D1185 :: (L1220 ++ (p1170 :: [])))) b_ hb_)).2.1))) b hb))) : ∀ b ∈ L1220, b ∉ (a1256 :: L1258)))), ((all_app nb1221 (all_cons (none_of_same (Same.trans eo1223 e1243) n1260) (fun b hb => none_of_same (Same.trans eo1223 e1243) (nb1261 b hb)))) : ∀ b ∈ (L1220 ++ (a1256 :: L1258)), H1168 b = none), ((all_app nd1222 (all_cons (ne_of_none (e1243 _ _ h1214) n1260).symm (new_ne2 nb1261 (S1247.ow _ (.head _)).2.1))) : ∀ b ∈ (L1220 ++ (a1256 :: L1258)), b ≠ D1185), (same_mut (Same.trans (Same.trans eo1223 e1243) e1255) x1276 n1186), hw⟩
    intro H1280 hw
    obtain ⟨G1283, acc1285, vs1286, L1288, eG1284, S1281, h1292, h1282, d1287, nb1289, nd1290, eo1291, hw⟩ := hw
    have hw := hK1184 _ (cW_mapA0 zipM_len hw)
    have fr1293 := S1180.free n1186
    have hw := cW_ok hw
    exact hK0 _ hw _ _ _ _ _ fr1293 ((fun b hb => Sep.h0 S1281 (((fun b hb => (.tail _ (List.mem_append_left _ hb))) : ∀ b ∈ L1288, b ∈ (D1185 :: (L1288 ++ (p1170 :: [])))) b hb) nm_nil) : ∀ b ∈ L1288, H b = none) (nd1290 : ∀ b ∈ L1288, b ≠ D1185) S1281.b0 S1281.g0 S1281.sG S1281.gn (S1281.ow _ (.head _)).1 ((fun b hb => (S1281.ow b (((fun b hb => (.tail _ (List.mem_append_left _ hb))) : ∀ b ∈ L1288, b ∈ (D1185 :: (L1288 ++ (p1170 :: [])))) b hb)).1) : ∀ b ∈ L1288, G1283 b = none) h1282 d1287

abbrev N__law_refused : List Str := ["fmt", "planes", "before", "e"]
theorem sc__law_refused : FnScope N__law_refused ["fmt", "planes"] (defScope s__law_refused) := ⟨rfl, rfl, rfl, by decide +kernel, rfl, by decide +kernel, by decide +kernel⟩
theorem ok__law_refused (D : DefX K mg "_law_refused" s__law_refused ["fmt", "planes"] pats__law_refused) (T : Txt w K mg AD) (c__law_copy : CalX P w K mg base 1 "_law_copy" (sp__law_copy K AD) pats__law_copy) (c_crop_planes : CalX P w K mg base 6 "crop_planes" (sp_crop_planes K AD) pats_crop_planes) : CalX P w K mg base 7 "_law_refused" (sp__law_refused K AD) pats__law_refused := by
  refine D.ok sc__law_refused (fun vs H Q E h => ?_) (fun f cdv A_ outer s H vs Q E hr h => ?_)
  · obtain ⟨G, p_fmt, dx_fmt, fmt', v_planes, planes', rfl, _⟩ := h
    rfl
  · obtain ⟨G, p_fmt, dx_fmt, fmt', v_planes, planes', rfl, sG, h_p_fmt, r_planes, hw⟩ := h
    refine ⟨_, (pss_cons (ps_set (i := 2) sc__law_refused.nd rfl (Or.inl rfl) (vx_callX c__law_copy pat__law_copy_0 (.head _) hr (by decide) (takes_of rfl rfl rfl rfl) rfl (pa_cons (pv 1) pa_nil) pk_nil))
      (pss_cons (ps_try_as (i := 3) rfl rfl sc__law_refused.nd rfl rfl ⟨rfl, by decide, .inl T.xg_BadFrame⟩ (takes_of rfl rfl rfl rfl) (fun W pn xe tk pse => (pss_one (ps_expr (vx_callX c_crop_planes pat_crop_planes_0 (.head _) hr (by decide) tk rfl (pa_cons (pv 0) (pa_cons (pv 1) pa_nil)) pk_nil)))) (fun a oe cls d pn hz hf => (pss_one (ps_ret (pe_and (pe_callB (call_isX (K := K) hz hf) (by rfl) T.b_isinstance (by decide +kernel) (pa_cons (pv 3) (pa_cons (C8.pe_gc (v := V.ref AD.x_CodecError) rfl ⟨_, T.xg_CodecError, rfl⟩) pa_nil))) (pe_one (pe_cmpR (op_eqT (encOk_L (encOk_L (encOk_L encOk_int))) hr.units) (pv 1) (pv 2) (nomark _))))))))
      (pss_one (ps_ret pe_bl)))), ?_⟩
    obtain ⟨KK, EE, hK0, hE, hw⟩ := cW_gen hw
    have S0 := Sep.startG sG
    unfold F__law_refused at hw
    obtain ⟨a1294, vs1295, rfl, h1296, d1297⟩ := rp_list r_planes
    refine ⟨_, rfl, rfl, rfl, G, _, _, rfl, S0.sG, (Rp.hide_nil (rp_mk_list (S0.bM _ _ h1296) (RpAll.mono S0.bM d1297))), cW_call hw (fun v1298 hw H1299 a1301 vs1302 L1303 G1304 n1305 nb1306 nd1307 e1300 eG1308 sG1309 hn1310 ga1311 gL1312 h1313 w1314 => ?_) (fun e he H2 e2 => hE e he H2 (Same.trans S0.b0 e2))⟩
    have fr1315 := S0.free n1305
    have S1316 : Sep _ _ _ _ H1299 (a1301 :: (L1303 ++ [])) := Sep.steptree S0 e1300 eG1308 sG1309 hn1310 (a1301 :: L1303) (all_cons ⟨n1305, ga1311, some_ne h1313⟩ (fun b hb => ⟨nb1306 b hb, gL1312 b hb, OwAll.there w1314 b hb⟩))
    obtain ⟨G1317, eG1318, k1319, S1320⟩ := Sep.freezeL (L := (a1301 :: L1303)) (O' := []) S1316 ((all_cons (.head _) ((fun b hb => (.tail _ (List.mem_append_left _ hb))) : ∀ b ∈ L1303, b ∈ (a1301 :: (L1303 ++ [])))) : ∀ b ∈ (a1301 :: L1303), b ∈ (a1301 :: (L1303 ++ []))) ((all_cons fr1315 (fun b hb => Sep.h0 S1316 (((fun b hb => (.tail _ (List.mem_append_left _ hb))) : ∀ b ∈ L1303, b ∈ (a1301 :: (L1303 ++ []))) b hb) nm_nil)) : ∀ b ∈ (a1301 :: L1303), H b = none) (all_nil)
    have hg1321 := k1319 _ List.mem_cons_self _ h1313
    have d1322 := OwAll.rpH w1314 (encO_L (encO_L encO_I)) eG1318 (fun b hb => k1319 b (List.mem_cons_of_mem _ hb))
    refine ⟨_, rfl, _, rfl, rfl, rfl, G1317, _, _, fmt', _, _, rfl, S1320.sG, (hide_nil (S1320.bM _ _ h_p_fmt)), (Rp.hide_nil (rp_mk_list (S1320.bM _ _ h1296) (RpAll.mono S1320.bM d1297))), cW_try hw (fun v1323 hw H1324 a1326 vs1327 L1328 G1329 n1330 nb1331 nd1332 e1325 eG1333 sG1334 hn1335 ga1336 gL1337 h1338 w1339 => ?_) ?_⟩
    · have fr1340 := S1320.free n1330
      have S1341 : Sep _ _ _ _ H1324 (a1326 :: (L1328 ++ [])) := Sep.steptree S1320 e1325 eG1333 sG1334 hn1335 (a1326 :: L1328) (all_cons ⟨n1330, ga1336, some_ne h1338⟩ (fun b hb => ⟨nb1331 b hb, gL1337 b hb, OwAll.there w1339 b hb⟩))
      have hw := cW_ok hw
      exact hK0 _ hw _ S1341.b0
    · intro e hm hw H1342 e1343
      have S1344 := S1320.same e1343
      obtain rfl := mem_one hm
      refine ⟨true, T.xm_BadFrame_BadFrame, fun _ a1345 na1346 => ?_, fun q => nomatch q⟩
      refine ⟨_, rfl, _, _, _, rfl, rfl, T.xc_BadFrame, rfl, T.xo_BadFrame_CodecError, _, rfl, ?_⟩
      refine iteT ?_
      refine ⟨_, rfl, _, rfl, _, _, (rp_mk_list (S1344.bM _ _ h1296) (RpAll.mono S1344.bM d1297)), (rp_mk_list (S1344.sG _ _ hg1321) (RpAll.mono S1344.sG d1322)), ?_⟩
      have hw := cW_ok hw
      exact hK0 _ hw _ S1344.b0

abbrev N__law_cell : List Str := ["script", "k"]
theorem sc__law_cell : FnScope N__law_cell ["script", "k"] (defScope s__law_cell) := ⟨rfl, rfl, rfl, by decide +kernel, rfl, by decide +kernel, by decide +kernel⟩
theorem ok__law_cell (D : DefX K mg "_law_cell" s__law_cell ["script", "k"] pats__law_cell) (T : Txt w K mg AD)  : CalX P w K mg base 1 "_law_cell" (sp__law_cell K AD) pats__law_cell := by
  refine D.ok sc__law_cell (fun vs H Q E h => ?_) (fun f cdv A_ outer s H vs Q E hr h => ?_)
  · obtain ⟨G, a_script, script', k', rfl, _⟩ := h
    rfl
  · obtain ⟨G, a_script, script', k', rfl, sG, q_script, hw⟩ := h
    refine ⟨_, (pss_cons (ps_if (pt_cmp (pc_lt (pv 1) (pe_callB (call_lenLiK (K := K)) (by rfl) T.b_len (by decide +kernel) (pa_cons (pv 0) pa_nil)))) (pss_one (ps_ret (pe_callTy call_int1 (by rfl) T.b_int (by decide +kernel) (pa_cons (pe_ix (ix_listK (K := K)) (pv 0) (pv 1) (fun _ _ => rfl)) pa_nil)))) pss_nil)
      (pss_one (ps_ret pe_int))), ?_⟩
    obtain ⟨KK, EE, hK0, hE, hw⟩ := cW_gen hw
    have S0 := Sep.startG sG
    unfold F__law_cell at hw
    refine ⟨_, rfl, _, rfl, _, _, rfl, (S0.b0.seq q_script), _, _, rfl, rfl, _, rfl, ?_⟩
    refine iteD (fun c1347 => ?_) (fun c1347 => ?_)
    · have hw := cW_pos c1347 hw
      obtain ⟨g1348, hw⟩ := cW_grd hw
      refine ⟨_, rfl, _, rfl, _, _, _, _, rfl, rfl, (S0.b0.seq q_script), (atI_map g1348), .inl ⟨_, rfl, ?_⟩⟩
      have hw := cW_ok hw
      exact hK0 _ hw
    · have hw := cW_neg c1347 hw
      have hw := cW_ok hw
      exact hK0 _ hw

abbrev N__law_size : List Str := ["width", "height", "chroma", "plane"]
theorem sc__law_size : FnScope N__law_size ["width", "height", "chroma", "plane"] (defScope s__law_size) := ⟨rfl, rfl, rfl, by decide +kernel, rfl, by decide +kernel, by decide +kernel⟩
theorem ok__law_size (D : DefX K mg "_law_size" s__law_size ["width", "height", "chroma", "plane"] pats__law_size) (T : Txt w K mg AD)  : CalX P w K mg base 1 "_law_size" (sp__law_size K AD) pats__law_size := by
  refine D.ok sc__law_size (fun vs H Q E h => ?_) (fun f cdv A_ outer s H vs Q E hr h => ?_)
  · obtain ⟨G, width', height', chroma', plane', rfl, _⟩ := h
    rfl
  · obtain ⟨G, width', height', chroma', plane', rfl, sG, hw⟩ := h
    refine ⟨_, (pss_cons (ps_if (PW.pt (pw_and (pt_cmp (pc_gt (pv 3) pe_int)) (pw_and1 (pt_cmp (pc_eqI (pv 2) pe_int))))) (pss_one (ps_ret (pe_tup (pa_cons (pe_op op_fdivW (pe_op op_add (pv 0) pe_int) pe_int) (pa_cons (pe_op op_fdivW (pe_op op_add (pv 1) pe_int) pe_int) pa_nil))))) pss_nil)
      (pss_one (ps_ret (pe_tup (pa_cons (pv 0) (pa_cons (pv 1) pa_nil)))))), ?_⟩
    obtain ⟨KK, EE, hK0, hE, hw⟩ := cW_gen hw
    have S0 := Sep.startG sG
    unfold F__law_size at hw
    refine ⟨_, rfl, _, _, rfl, rfl, _, rfl, ?_⟩
    refine iteD (fun c1349 => ?_) (fun c1349 => ?_)
    · have hw := cW_pos c1349 hw
      refine ⟨_, rfl, _, _, rfl, rfl, _, rfl, ?_⟩
      refine iteD (fun c1350 => ?_) (fun c1350 => ?_)
      · have hw := cW_pos c1350 hw
        refine ⟨_, rfl, _, _, rfl, rfl, _, _, rfl, rfl, (divW_lit (by decide) (by decide)), _, rfl, _, _, rfl, rfl, _, _, rfl, rfl, (divW_lit (by decide) (by decide)), (by show 2 ≤ sizeLine; decide), fun p1351 n1352 => ?_⟩
        generalize g1353 : upd H p1351 _ = H1354
        obtain ⟨e1355, h1356⟩ := gen_new n1352 g1353
        have h1357 : H1354 p1351 = some (.tup [V.int (((width' + 1) / 2)), V.int (((height' + 1) / 2))]) := h1356
        have fr1358 := S0.free n1352
        obtain ⟨G1360, eG1361, hg1362, S1359⟩ := S0.grow n1352 e1355 h1357 fr1358
        have hw := cW_ok hw
        exact hK0 _ hw _ _ _ S1359.b0 S1359.g0 S1359.sG S1359.gn (rp_mk2 hg1362 (.int _) (.int _))
      · have hw := cW_neg c1350 hw
        refine ⟨_, rfl, _, rfl, (by show 2 ≤ sizeLine; decide), fun p1363 n1364 => ?_⟩
        generalize g1365 : upd H p1363 _ = H1366
        obtain ⟨e1367, h1368⟩ := gen_new n1364 g1365
        have h1369 : H1366 p1363 = some (.tup [V.int (width'), V.int (height')]) := h1368
        have fr1370 := S0.free n1364
        obtain ⟨G1372, eG1373, hg1374, S1371⟩ := S0.grow n1364 e1367 h1369 fr1370
        have hw := cW_ok hw
        exact hK0 _ hw _ _ _ S1371.b0 S1371.g0 S1371.sG S1371.gn (rp_mk2 hg1374 (.int _) (.int _))
    · have hw := cW_neg c1349 hw
      refine iteF ?_
      refine ⟨_, rfl, _, rfl, (by show 2 ≤ sizeLine; decide), fun p1375 n1376 => ?_⟩
      generalize g1377 : upd H p1375 _ = H1378
      obtain ⟨e1379, h1380⟩ := gen_new n1376 g1377
      have h1381 : H1378 p1375 = some (.tup [V.int (width'), V.int (height')]) := h1380
      have fr1382 := S0.free n1376
      obtain ⟨G1384, eG1385, hg1386, S1383⟩ := S0.grow n1376 e1379 h1381 fr1382
      have hw := cW_ok hw
      exact hK0 _ hw _ _ _ S1383.b0 S1383.g0 S1383.sG S1383.gn (rp_mk2 hg1386 (.int _) (.int _))

abbrev N__law_plane : List Str := ["cell", "width", "height", "top", "kind", "values", "k", "value", "y"]
theorem sc__law_plane : FnScope N__law_plane ["cell", "width", "height", "top"] (defScope s__law_plane) := ⟨rfl, rfl, rfl, by decide +kernel, rfl, by decide +kernel, by decide +kernel⟩
theorem ok__law_plane (D : DefX K mg "_law_plane" s__law_plane ["cell", "width", "height", "top"] pats__law_plane) (T : Txt w K mg AD) (c__law_draws : CalX P w K mg base 1 "_law_draws" (sp__law_draws K AD) pats__law_draws) : CalX P w K mg base 2 "_law_plane" (sp__law_plane K AD) pats__law_plane := by
  refine D.ok sc__law_plane (fun vs H Q E h => ?_) (fun f cdv A_ outer s H vs Q E hr h => ?_)
  · obtain ⟨G, cell', width', height', top', rfl, _⟩ := h
    rfl
  · obtain ⟨G, cell', width', height', top', rfl, sG, hw⟩ := h
    refine ⟨_, (pss_cons (ps_set (i := 4) sc__law_plane.nd rfl (Or.inl rfl) (pe_op op_mod (pe_callTy call_int1 (by rfl) T.b_int (by decide +kernel) (pa_cons (pv 0) pa_nil)) pe_int))
      (pss_cons (ps_set (i := 5) sc__law_plane.nd rfl (Or.inr rfl) (vx_callX c__law_draws pat__law_draws_0 (.head _) hr (by decide) (takes_of rfl rfl rfl rfl) rfl (pa_cons (pe_op op_fdivW (pe_callTy call_int1 (by rfl) T.b_int (by decide +kernel) (pa_cons (pv 0) pa_nil)) pe_int) (pa_cons (pe_op op_rep (pe_lst (pa_cons (pe_op op_add (pv 3) pe_int) pa_nil)) (pe_op op_mul (pv 1) (pv 2))) pa_nil)) pk_nil))
      (C8.pss_cut (ps_if (pt_cmp (pc_eqI (pv 4) pe_int)) (pss_one (ps_set (i := 5) sc__law_plane.nd rfl (Or.inr rfl) (pe_op op_rep (pe_lst (pa_cons (pe_ix (ix_listK (K := K)) (pv 5) pe_int (fun _ _ => rfl)) pa_nil)) (pe_op op_mul (pv 1) (pv 2))))) pss_nil)
      (C8.pss_cut (ps_if (pt_cmp (pc_eqI (pv 4) pe_int)) (pss_one (ps_set (i := 5) sc__law_plane.nd rfl (Or.inr rfl) (pe_lc (own := [("k", 6)]) (g := gName 6) (by rfl) sc__law_plane.nd (pi_range1 rfl T.b_range (pa_cons (pe_op op_mul (pv 1) (pv 2)) pa_nil)) (blkOk_by (own := [("k", 6)]) (N := N__law_plane) (sc := defScope s__law_plane) (by decide +kernel)) (fun _ _ _ _ _ => (pg_name (i := 6) sc__law_plane.nd rfl (Or.inl rfl))) (fun _ _ _ _ _ => pts_nil) (fun _ _ _ _ _ => (pe_op op_mod (pe_callTy call_int1 (by rfl) T.b_int (by decide +kernel) (pa_cons (pe_op op_add (pe_ix (ix_listK (K := K)) (pv 5) pe_int (fun _ _ => rfl)) (pe_op op_mul pe_int (pv 6))) pa_nil)) (pe_op op_add (pv 3) pe_int)))))) pss_nil)
      (C8.pss_cut (ps_if (pt_cmp (pc_eqI (pv 4) pe_int)) (pss_one (ps_set (i := 5) sc__law_plane.nd rfl (Or.inr rfl) (pe_lc (own := [("value", 7)]) (g := gName 7) (by rfl) sc__law_plane.nd (pi_listK (K := K) (pv 5)) (blkOk_by (own := [("value", 7)]) (N := N__law_plane) (sc := defScope s__law_plane) (by decide +kernel)) (fun _ _ _ _ _ => (pg_name (i := 7) sc__law_plane.nd rfl (Or.inl rfl))) (fun _ _ _ _ _ => pts_nil) (fun _ _ _ _ _ => (pe_op op_mul (pv 3) (pe_callTy call_int1 (by rfl) T.b_int (by decide +kernel) (pa_cons (pe_op op_mod (pe_callTy call_int1 (by rfl) T.b_int (by decide +kernel) (pa_cons (pv 7) pa_nil)) pe_int) pa_nil))))))) pss_nil)
      (pss_one (ps_ret (pe_lc (own := [("y", 8)]) (g := gName 8) (by rfl) sc__law_plane.nd (pi_range1 rfl T.b_range (pa_cons (pv 2) pa_nil)) (blkOk_by (own := [("y", 8)]) (N := N__law_plane) (sc := defScope s__law_plane) (by decide +kernel)) (fun _ _ _ _ _ => (pg_name (i := 8) sc__law_plane.nd rfl (Or.inl rfl))) (fun _ _ _ _ _ => pts_nil) (fun _ _ _ _ _ => (pe_slice (sl_listK (K := K)) (pv 5) (po_some (pe_op op_mul (pv 8) (pv 1))) (po_some (pe_op op_mul (pe_op op_add (pv 8) pe_int) (pv 1))))))))))))), ?_⟩
    obtain ⟨KK, EE, hK0, hE, hw⟩ := cW_gen hw
    have S0 := Sep.startG sG
    unfold F__law_plane at hw
    refine ⟨_, rfl, .inl ⟨_, rfl, ?_⟩⟩
    refine ⟨_, _, rfl, rfl, (show (0 : Int) < 4 by decide), ?_⟩
    have hw := cW_bnd hw
    refine ⟨_, rfl, .inl ⟨_, rfl, ?_⟩⟩
    refine ⟨_, _, rfl, rfl, (divW_lit (by decide) (by decide)), _, rfl, _, _, rfl, rfl, (by show 1 ≤ sizeLine; decide), fun p1388 n1389 => ?_⟩
    generalize g1390 : upd H p1388 _ = H1391
    obtain ⟨e1392, h1393⟩ := gen_new n1389 g1390
    have h1394 : H1391 p1388 = some (.lst (([(top' + 1)] : (List Int)).map V.int)) := h1393
    have fr1395 := S0.free n1389
    have S1396 := S0.new n1389 e1392 h1394 fr1395
    obtain ⟨g1397, hw⟩ := cW_grd hw
    obtain ⟨g1398, hw⟩ := cW_grd hw
    refine ⟨_, rfl, _, rfl, _, _, rfl, rfl, g1397, _, _, _, rfl, rfl, h1394, g1398.1, g1398.2.1, (rep_lenM g1398.2.2), fun p1399 n1400 => ?_⟩
    generalize g1401 : upd H1391 p1399 _ = H1402
    obtain ⟨e1403, h1404⟩ := gen_new n1400 g1401
    have h1405 : H1402 p1399 = some (.lst ((repL ([(top' + 1)]) ((width' * height')) : (List Int)).map V.int)) := rep_map h1404
    have fr1406 := S1396.free n1400
    have S1407 := S1396.new n1400 e1403 h1405 fr1406
    refine ⟨rfl, rfl, G, _, _, _, rfl, S1407.sG, (hide_nil h1405), cW_call hw (fun v1408 hw p1411 H1409 n1412 e1410 h1413 => ?_) (fun e he H2 e2 => hE e he H2 (Same.trans S1407.b0 e2))⟩
    have h1414 : H1409 p1411 = some (.lst ((v1408 : (List Int)).map V.int)) := h1413
    have fr1415 := S1407.free n1412
    have S1416 := S1407.new n1412 e1410 h1414 fr1415
    refine ⟨fun σ H' => ∃ (p1423 : Addr) (values_1422 : (List Int)) (G' : Hp), σ = [some (V.int (cell')), some (V.int (width')), some (V.int (height')), some (V.int (top')), some (V.int ((cell' % 4))), some (V.ref p1423), none, none, none] ∧ Same G G' ∧ Sep [] H G G' H' [p1423] ∧ H' p1423 = some (.lst ((values_1422 : (List Int)).map V.int)) ∧ H p1423 = none ∧ cW (F__law_plane_k1 (width') (height') (top') ((cell' % 4)) values_1422) KK EE, ?_, ?_⟩
    · obtain ⟨K1424, hK1425, hw⟩ := cW_push hw
      refine ⟨_, rfl, _, _, rfl, rfl, _, rfl, ?_⟩
      refine iteD (fun c1426 => ?_) (fun c1426 => ?_)
      · have hw := cW_pos c1426 hw
        obtain ⟨g1427, hw⟩ := cW_grd hw
        refine ⟨_, rfl, _, _, _, _, rfl, rfl, (SqL.of h1414), (atI_map g1427), (by show 1 ≤ sizeLine; decide), fun p1428 n1429 => ?_⟩
        generalize g1430 : upd H1409 p1428 _ = H1431
        obtain ⟨e1432, h1433⟩ := gen_new n1429 g1430
        have h1434 : H1431 p1428 = some (.lst (([(itD (v1408) (0))] : (List Int)).map V.int)) := h1433
        have fr1435 := S1416.free n1429
        have S1436 := S1416.new n1429 e1432 h1434 fr1435
        obtain ⟨g1437, hw⟩ := cW_grd hw
        obtain ⟨g1438, hw⟩ := cW_grd hw
        refine ⟨_, rfl, _, rfl, _, _, rfl, rfl, g1437, _, _, _, rfl, rfl, h1434, g1438.1, g1438.2.1, (rep_lenM g1438.2.2), fun p1439 n1440 => ?_⟩
        generalize g1441 : upd H1431 p1439 _ = H1442
        obtain ⟨e1443, h1444⟩ := gen_new n1440 g1441
        have h1445 : H1442 p1439 = some (.lst ((repL ([(itD (v1408) (0))]) ((width' * height')) : (List Int)).map V.int)) := rep_map h1444
        have fr1446 := S1436.free n1440
        have S1447 := S1436.new n1440 e1443 h1445 fr1446
        have hw := cW_ok hw
        have hw := hK1425 _ hw
        exact ⟨_, (repL ([(itD (v1408) (0))]) ((width' * height'))), _, rfl, (Same.refl _), (S1447.sub (all_cons (.head _) all_nil)), h1445, fr1446, hw⟩
      · have hw := cW_neg c1426 hw
        have hw := cW_ok hw
        have hw := hK1425 _ hw
        exact ⟨_, (v1408), _, rfl, (Same.refl _), (S1416.sub (all_cons (.head _) all_nil)), h1414, fr1415, hw⟩
    · intro σ H1448 hw
      obtain ⟨p1423, values_1422, G1452, rfl, eG1453, S1449, h1450, fr1451, hw⟩ := hw
      unfold F__law_plane_k1 at hw
      refine ⟨fun σ H' => ∃ (p1460 : Addr) (values_1459 : (List Int)) (G' : Hp), σ = [some (V.int (cell')), some (V.int (width')), some (V.int (height')), some (V.int (top')), some (V.int ((cell' % 4))), some (V.ref p1460), none, none, none] ∧ Same G1452 G' ∧ Sep [] H G G' H' [p1460] ∧ H' p1460 = some (.lst ((values_1459 : (List Int)).map V.int)) ∧ H p1460 = none ∧ cW (F__law_plane_k2 (width') (height') (top') ((cell' % 4)) values_1459) KK EE, ?_, ?_⟩
      · obtain ⟨K1461, hK1462, hw⟩ := cW_push hw
        refine ⟨_, rfl, _, _, rfl, rfl, _, rfl, ?_⟩
        refine iteD (fun c1463 => ?_) (fun c1463 => ?_)
        · have hw := cW_pos c1463 hw
          obtain ⟨g1464, hw⟩ := cW_grd hw
          obtain ⟨g1465, hw⟩ := cW_grd hw
          obtain ⟨K1469, hK1470, hw⟩ := cW_push hw
          refine ⟨_, rfl, _, rfl, _, _, rfl, rfl, g1464, _, rfl, g1465.1, g1465.2, fun D1471 n1472 => lc_range (lo := 0) (n := Int.toNat ((width' * height'))) (fun i H' => ∃ (G' : Hp) (acc1474 : (List Int)), Same G1452 G' ∧ Sep [] H G G' H' [D1471, p1423] ∧ H' p1423 = some (.lst ((values_1422 : (List Int)).map V.int)) ∧ H' D1471 = some (.lst ((acc1474 : (List Int)).map V.int)) ∧ Same H1448 H' ∧ cW (mapA (List.drop i (rng (0) (Int.toNat ((width' * height'))))) acc1474 (fun x => noEr (F__law_plane_c3 (top') (values_1422) x))) K1469 EE) ?_ ?_ ?_⟩
          · generalize g1476 : upd H1448 D1471 _ = H1477
            obtain ⟨e1478, h1479⟩ := gen_new n1472 g1476
            have fr1480 := S1449.free n1472
            have S1481 := S1449.new n1472 e1478 h1479 fr1480
            have h1482 := (e1478 _ _ h1450)
            exact ⟨_, [], Same.refl _, S1481, h1482, h1479, e1478, hw⟩
          · intro i H1483 hi hw
            obtain ⟨G1486, acc1488, eG1487, S1484, h1495, h1485, eo1494, hw⟩ := hw
            obtain ⟨z1496, hw⟩ := cW_mapA (rng_get hi) hw
            generalize (0 + (i : Int)) = x1497 at hw ⊢
            have hw := cW_noEr hw
            have hw : cW (F__law_plane_c3 (top') (values_1422) (x1497)) _ (fun _ => False) := hw
            unfold F__law_plane_c3 at hw
            refine ⟨rfl, ?_⟩
            refine tyes_go ?_
            obtain ⟨g1499, hw⟩ := cW_grd hw
            refine ⟨_, rfl, _, _, _, _, rfl, rfl, (SqL.of h1495), (atI_map g1499), _, rfl, _, _, rfl, rfl, (.inl ⟨by decide, by decide⟩), _, _, rfl, rfl, .inl ⟨_, rfl, ?_⟩⟩
            obtain ⟨g1500, hw⟩ := cW_grd hw
            refine ⟨_, rfl, _, _, rfl, rfl, _, _, rfl, rfl, g1500, _, h1485, (app_lenM z1496), ?_⟩
            generalize g1501 : upd H1483 D1471 _ = H1502
            obtain ⟨x1503, h1504⟩ := gen_mut g1501
            have S1505 := S1484.mut1 x1503 (.head _) h1504
            have hw := cW_ok hw
            have h1506 := (x1503 _ _ h1495 (ne_of_none h1450 n1472))
            exact ⟨_, (acc1488 ++ [(((itD (values_1422) (0)) + (7 * x1497)) % (top' + 1))]), eG1487, S1505, h1506, (snoc_map h1504), (same_mut eo1494 x1503 n1472), hw⟩
          intro H1507 hw
          obtain ⟨G1510, acc1512, eG1511, S1508, h1519, h1509, eo1518, hw⟩ := hw
          have hw := hK1470 _ (cW_mapA0 (rng_len _ _).symm hw)
          have fr1520 := S1449.free n1472
          have hw := cW_ok hw
          have hw := hK1462 _ hw
          exact ⟨_, (acc1512), _, rfl, eG1511, (S1508.sub (all_cons (.head _) all_nil)), h1509, fr1520, hw⟩
        · have hw := cW_neg c1463 hw
          have hw := cW_ok hw
          have hw := hK1462 _ hw
          exact ⟨_, (values_1422), _, rfl, (Same.refl _), S1449, h1450, fr1451, hw⟩
      · intro σ H1521 hw
        obtain ⟨p1460, values_1459, G1525, rfl, eG1526, S1522, h1523, fr1524, hw⟩ := hw
        unfold F__law_plane_k2 at hw
        refine ⟨fun σ H' => ∃ (p1531 : Addr) (values_1530 : (List Int)) (G' : Hp), σ = [some (V.int (cell')), some (V.int (width')), some (V.int (height')), some (V.int (top')), some (V.int ((cell' % 4))), some (V.ref p1531), none, none, none] ∧ Same G1525 G' ∧ Sep [] H G G' H' [p1531] ∧ H' p1531 = some (.lst ((values_1530 : (List Int)).map V.int)) ∧ H p1531 = none ∧ cW (F__law_plane_k4 (width') (height') values_1530) KK EE, ?_, ?_⟩
        · obtain ⟨K1532, hK1533, hw⟩ := cW_push hw
          refine ⟨_, rfl, _, _, rfl, rfl, _, rfl, ?_⟩
          refine iteD (fun c1534 => ?_) (fun c1534 => ?_)
          · have hw := cW_pos c1534 hw
            obtain ⟨K1537, hK1538, hw⟩ := cW_push hw
            refine ⟨_, rfl, _, rfl, ⟨_, (SqL.of h1523)⟩, fun D1539 n1540 => lc_list (K := K) (a := p1460) (xs := (values_1459 : (List Int)).map V.int) (fun i H' => ∃ (G' : Hp) (acc1542 : (List Int)), Same G1525 G' ∧ Sep [] H G G' H' [D1539, p1460] ∧ H' p1460 = some (.lst ((values_1459 : (List Int)).map V.int)) ∧ H' D1539 = some (.lst ((acc1542 : (List Int)).map V.int)) ∧ Same H1521 H' ∧ cW (mapA (List.drop i (values_1459)) acc1542 (fun x => noEr (F__law_plane_c5 (top') x))) K1537 EE) ?_ ?_ ?_ ?_⟩
            · generalize g1544 : upd H1521 D1539 _ = H1545
              obtain ⟨e1546, h1547⟩ := gen_new n1540 g1544
              have fr1548 := S1522.free n1540
              have S1549 := S1522.new n1540 e1546 h1547 fr1548
              have h1550 := (e1546 _ _ h1523)
              exact ⟨_, [], Same.refl _, S1549, h1550, h1547, e1546, hw⟩
            · intro i H1551 _ hw
              obtain ⟨G1554, acc1556, eG1555, S1552, h1563, h1553, eo1562, hw⟩ := hw
              exact (SqL.of h1563)
            · intro i x H1564 hj hw
              obtain ⟨G1567, acc1569, eG1568, S1565, h1576, h1566, eo1575, hw⟩ := hw
              obtain ⟨x1577, hx, rfl⟩ := map_get hj
              obtain ⟨z1578, hw⟩ := cW_mapA hx hw
              have hw := cW_noEr hw
              have hw : cW (F__law_plane_c5 (top') (x1577)) _ (fun _ => False) := hw
              unfold F__law_plane_c5 at hw
              refine ⟨rfl, ?_⟩
              refine tyes_go ?_
              refine ⟨_, rfl, _, rfl, .inl ⟨_, rfl, ?_⟩⟩
              refine ⟨_, _, rfl, rfl, (show (0 : Int) < 2 by decide), .inl ⟨_, rfl, ?_⟩⟩
              obtain ⟨g1580, hw⟩ := cW_grd hw
              refine ⟨_, _, rfl, rfl, g1580, _, h1566, (app_lenM z1578), ?_⟩
              generalize g1581 : upd H1564 D1539 _ = H1582
              obtain ⟨x1583, h1584⟩ := gen_mut g1581
              have S1585 := S1565.mut1 x1583 (.head _) h1584
              have hw := cW_ok hw
              have h1586 := (x1583 _ _ h1576 (ne_of_none h1523 n1540))
              exact ⟨_, (acc1569 ++ [(top' * (x1577 % 2))]), eG1568, S1585, h1586, (snoc_map h1584), (same_mut eo1575 x1583 n1540), hw⟩
            intro H1587 hw
            obtain ⟨G1590, acc1592, eG1591, S1588, h1599, h1589, eo1598, hw⟩ := hw
            have hw := hK1538 _ (cW_mapA0 (by rw [List.length_map]) hw)
            have fr1600 := S1522.free n1540
            have hw := cW_ok hw
            have hw := hK1533 _ hw
            exact ⟨_, (acc1592), _, rfl, eG1591, (S1588.sub (all_cons (.head _) all_nil)), h1589, fr1600, hw⟩
          · have hw := cW_neg c1534 hw
            have hw := cW_ok hw
            have hw := hK1533 _ hw
            exact ⟨_, (values_1459), _, rfl, (Same.refl _), S1522, h1523, fr1524, hw⟩
        · intro σ H1601 hw
          obtain ⟨p1531, values_1530, G1605, rfl, eG1606, S1602, h1603, fr1604, hw⟩ := hw
          unfold F__law_plane_k4 at hw
          obtain ⟨g1607, hw⟩ := cW_grd hw
          obtain ⟨K1611, hK1612, hw⟩ := cW_push hw
          refine ⟨_, rfl, _, rfl, g1607.1, g1607.2, fun D1613 n1614 => lc_range (lo := 0) (n := Int.toNat (height')) (fun i H' => ∃ (G' : Hp) (acc1616 : (List (List Int))) (vs1617 : List V), Same G1605 G' ∧ Sep [] H G G' H' [D1613, p1531] ∧ H' p1531 = some (.lst ((values_1530 : (List Int)).map V.int)) ∧ H' D1613 = some (.lst vs1617) ∧ RpAll G' vs1617 ((acc1616 : (List (List Int))).map (encL PyData.int)) ∧ Same H1601 H' ∧ cW (mapA (List.drop i (rng (0) (Int.toNat (height')))) acc1616 (fun x => noEr (F__law_plane_c6 (width') (values_1530) x))) K1611 EE) ?_ ?_ ?_⟩
          · generalize g1618 : upd H1601 D1613 _ = H1619
            obtain ⟨e1620, h1621⟩ := gen_new n1614 g1618
            have fr1622 := S1602.free n1614
            have S1623 := S1602.new n1614 e1620 h1621 fr1622
            have h1624 := (e1620 _ _ h1603)
            exact ⟨_, [], [], Same.refl _, S1623, h1624, h1621, RpAll.nil, e1620, hw⟩
          · intro i H1625 hi hw
            obtain ⟨G1628, acc1630, vs1631, eG1629, S1626, h1637, h1627, d1632, eo1636, hw⟩ := hw
            obtain ⟨z1638, hw⟩ := cW_mapA (rng_get hi) hw
            generalize (0 + (i : Int)) = x1639 at hw ⊢
            have hw := cW_noEr hw
            have hw : cW (F__law_plane_c6 (width') (values_1530) (x1639)) _ (fun _ => False) := hw
            unfold F__law_plane_c6 at hw
            refine ⟨rfl, ?_⟩
            refine tyes_go ?_
            obtain ⟨g1641, hw⟩ := cW_grd hw
            obtain ⟨g1642, hw⟩ := cW_grd hw
            refine ⟨_, rfl, _, rfl, _, rfl, _, _, rfl, rfl, g1641, _, rfl, _, rfl, _, _, rfl, rfl, _, rfl, _, _, rfl, rfl, g1642, _, rfl, _, _, rfl, (SqL.of h1637), fun p1643 n1644 => ?_⟩
            generalize g1645 : upd H1625 p1643 _ = H1646
            obtain ⟨e1647, h1648⟩ := gen_new n1644 g1645
            have h1649 : H1646 p1643 = some (.lst ((cutL (values_1530) (some ((x1639 * width'))) (some (((x1639 + 1) * width'))) : (List Int)).map V.int)) := cut_map h1648
            have fr1650 := S1626.free n1644
            have S1651 := S1626.new n1644 e1647 h1649 fr1650
            obtain ⟨G1652, eG1653, hg1654, S1655⟩ := Sep.freeze (O' := [D1613, p1531]) S1651 (.head _) h1649 fr1650 ((all_cons ⟨(.tail _ (.head _)), (ne_of_none h1627 n1644)⟩ (all_cons ⟨(.tail _ (.tail _ (.head _))), (ne_of_none h1637 n1644)⟩ all_nil)))
            have h1656 := (e1647 _ _ h1627)
            refine ⟨_, h1656, (app_len (RpAll.mono eG1653 d1632) z1638), ?_⟩
            generalize g1657 : upd H1646 D1613 _ = H1658
            obtain ⟨x1659, h1660⟩ := gen_mut g1657
            have S1661 := S1655.mut1 x1659 (.head _) h1660
            have hw := cW_ok hw
            have h1662 := (x1659 _ _ (e1647 _ _ h1637) (ne_of_none h1603 n1614))
            exact ⟨_, (acc1630 ++ [cutL (values_1530) (some ((x1639 * width'))) (some (((x1639 + 1) * width')))]), _, (Same.trans eG1629 eG1653), S1661, h1662, h1660, (app_map (RpAll.mono eG1653 d1632) (RpAll.one (rp_mk_ints hg1654))), (same_mut (Same.trans eo1636 e1647) x1659 n1614), hw⟩
          intro H1663 hw
          obtain ⟨G1666, acc1668, vs1669, eG1667, S1664, h1675, h1665, d1670, eo1674, hw⟩ := hw
          have hw := hK1612 _ (cW_mapA0 (rng_len _ _).symm hw)
          have fr1676 := S1602.free n1614
          obtain ⟨G1677, eG1678, hg1679, S1680⟩ := Sep.freeze (O' := [p1531]) S1664 (.head _) h1665 fr1676 ((all_cons ⟨(.tail _ (.head _)), (ne_of_none h1603 n1614)⟩ all_nil))
          have hw := cW_ok hw
          exact hK0 _ hw _ _ _ S1680.b0 S1680.g0 S1680.sG S1680.gn (rp_mk_list hg1679 (RpAll.mono eG1678 d1670))

abbrev N__law_padded : List Str := ["plane", "width", "height", "rows", "row", "y"]
theorem sc__law_padded : FnScope N__law_padded ["plane", "width", "height"] (defScope s__law_padded) := ⟨rfl, rfl, rfl, by decide +kernel, rfl, by decide +kernel, by decide +kernel⟩
theorem ok__law_padded (D : DefX K mg "_law_padded" s__law_padded ["plane", "width", "height"] pats__law_padded) (T : Txt w K mg AD)  : CalX P w K mg base 1 "_law_padded" (sp__law_padded K AD) pats__law_padded := by
  refine D.ok sc__law_padded (fun vs H Q E h => ?_) (fun f cdv A_ outer s H vs Q E hr h => ?_)
  · obtain ⟨G, v_plane, plane', width', height', rfl, _⟩ := h
    rfl
  · obtain ⟨G, v_plane, plane', width', height', rfl, sG, r_plane, hw⟩ := h
    refine ⟨_, (pss_cons (ps_set (i := 3) sc__law_padded.nd rfl (Or.inr rfl) (pe_lc (own := [("row", 4)]) (g := gName 4) (by rfl) sc__law_padded.nd (pi_listK (K := K) (pv 0)) (blkOk_by (own := [("row", 4)]) (N := N__law_padded) (sc := defScope s__law_padded) (by decide +kernel)) (fun _ _ _ _ _ => (pg_name (i := 4) sc__law_padded.nd rfl (Or.inl rfl))) (fun _ _ _ _ _ => pts_nil) (fun _ _ _ _ _ => (pe_op op_cat (pe_callTy (call_listLK (K := K)) (by rfl) T.b_list (by decide +kernel) (pa_cons (pv 4) pa_nil)) (pe_op op_rep (pe_lst (pa_cons (pe_ix (ix_listK (K := K)) (pv 4) (pe_un un_neg pe_int) (fun _ _ => rfl)) pa_nil)) (pe_op op_sub (pv 1) (pe_callB (call_lenLiK (K := K)) (by rfl) T.b_len (by decide +kernel) (pa_cons (pv 4) pa_nil))))))))
      (pss_one (ps_ret (pe_op op_cat (pv 3) (pe_lc (own := [("y", 5)]) (g := gName 5) (by rfl) sc__law_padded.nd (pi_range1 rfl T.b_range (pa_cons (pe_op op_sub (pv 2) (pe_callB (call_lenLK (K := K)) (by rfl) T.b_len (by decide +kernel) (pa_cons (pv 3) pa_nil))) pa_nil)) (blkOk_by (own := [("y", 5)]) (N := N__law_padded) (sc := defScope s__law_padded) (by decide +kernel)) (fun _ _ _ _ _ => (pg_name (i := 5) sc__law_padded.nd rfl (Or.inl rfl))) (fun _ _ _ _ _ => pts_nil) (fun _ _ _ _ _ => (pe_callTy (call_listLK (K := K)) (by rfl) T.b_list (by decide +kernel) (pa_cons (pe_ix (ix_listK (K := K)) (pv 3) (pe_un un_neg pe_int) (fun _ _ => rfl)) pa_nil)))))))), ?_⟩
    obtain ⟨KK, EE, hK0, hE, hw⟩ := cW_gen hw
    have S0 := Sep.startG sG
    unfold F__law_padded at hw
    obtain ⟨a1681, vs1682, rfl, h1683, d1684⟩ := rp_list r_plane
    obtain ⟨K1687, hK1688, hw⟩ := cW_push hw
    refine ⟨_, rfl, _, rfl, ⟨_, (SqL.of (S0.bM _ _ h1683))⟩, fun D1689 n1690 => lc_list (K := K) (a := a1681) (xs := vs1682) (fun i H' => ∃ (G' : Hp) (acc1692 : (List (List Int))) (vs1693 : List V), Same G G' ∧ Sep [] H G G' H' [D1689] ∧ H' D1689 = some (.lst vs1693) ∧ RpAll G' vs1693 ((acc1692 : (List (List Int))).map (encL PyData.int)) ∧ Same H H' ∧ cW (mapA (List.drop i (plane')) acc1692 (fun x => noEr (F__law_padded_c1 (width') x))) K1687 EE) ?_ ?_ ?_ ?_⟩
    · generalize g1694 : upd H D1689 _ = H1695
      obtain ⟨e1696, h1697⟩ := gen_new n1690 g1694
      have fr1698 := S0.free n1690
      have S1699 := S0.new n1690 e1696 h1697 fr1698
      exact ⟨_, [], [], Same.refl _, S1699, h1697, RpAll.nil, e1696, hw⟩
    · intro i H1700 _ hw
      obtain ⟨G1703, acc1705, vs1706, eG1704, S1701, h1702, d1707, eo1711, hw⟩ := hw
      exact (SqL.of (S1701.bM _ _ h1683))
    · intro i x H1712 hj hw
      obtain ⟨G1715, acc1717, vs1718, eG1716, S1713, h1714, d1719, eo1723, hw⟩ := hw
      obtain ⟨x1724, hx, r1725⟩ := RpAll.get d1684 hj
      obtain ⟨a1726, rfl, h1727⟩ := rp_ints r1725
      obtain ⟨z1728, hw⟩ := cW_mapA hx hw
      have hw := cW_noEr hw
      have hw : cW (F__law_padded_c1 (width') (x1724)) _ (fun _ => False) := hw
      unfold F__law_padded_c1 at hw
      refine ⟨rfl, ?_⟩
      refine tyes_go ?_
      refine ⟨_, rfl, _, _, rfl, (SqL.of (S1713.bM _ _ h1727)), fun p1730 n1731 => ?_⟩
      generalize g1732 : upd H1712 p1730 _ = H1733
      obtain ⟨e1734, h1735⟩ := gen_new n1731 g1732
      have h1736 : H1733 p1730 = some (.lst ((x1724 : (List Int)).map V.int)) := h1735
      have fr1737 := S1713.free n1731
      have S1738 := S1713.new n1731 e1734 h1736 fr1737
      obtain ⟨g1739, hw⟩ := cW_grd hw
      refine ⟨_, rfl, _, rfl, _, _, _, _, rfl, rfl, (SqL.of (S1738.bM _ _ h1727)), (atI_map g1739), (by show 1 ≤ sizeLine; decide), fun p1740 n1741 => ?_⟩
      generalize g1742 : upd H1733 p1740 _ = H1743
      obtain ⟨e1744, h1745⟩ := gen_new n1741 g1742
      have h1746 : H1743 p1740 = some (.lst (([(itD (x1724) ((-1)))] : (List Int)).map V.int)) := h1745
      have fr1747 := S1738.free n1741
      have S1748 := S1738.new n1741 e1744 h1746 fr1747
      obtain ⟨g1749, hw⟩ := cW_grd hw
      refine ⟨_, rfl, _, rfl, _, _, rfl, (SqL.of (S1748.bM _ _ h1727)), _, _, rfl, rfl, _, _, _, rfl, rfl, h1746, g1749.1, g1749.2.1, (rep_lenM g1749.2.2), fun p1750 n1751 => ?_⟩
      generalize g1752 : upd H1743 p1750 _ = H1753
      obtain ⟨e1754, h1755⟩ := gen_new n1751 g1752
      have h1756 : H1753 p1750 = some (.lst ((repL ([(itD (x1724) ((-1)))]) ((width' - (((x1724) : (List Int)).length : Int))) : (List Int)).map V.int)) := rep_map h1755
      have fr1757 := S1748.free n1751
      have S1758 := S1748.new n1751 e1754 h1756 fr1757
      obtain ⟨g1759, hw⟩ := cW_grd hw
      have h1760 := (e1754 _ _ (e1744 _ _ h1736))
      refine ⟨_, _, _, _, rfl, rfl, h1760, h1756, (cat_lenM g1759), fun p1761 n1762 => ?_⟩
      generalize g1763 : upd H1753 p1761 _ = H1764
      obtain ⟨e1765, h1766⟩ := gen_new n1762 g1763
      have h1767 : H1764 p1761 = some (.lst (((x1724) ++ (repL ([(itD (x1724) ((-1)))]) ((width' - (((x1724) : (List Int)).length : Int)))) : (List Int)).map V.int)) := cat_map h1766
      have fr1768 := S1758.free n1762
      have S1769 := S1758.new n1762 e1765 h1767 fr1768
      obtain ⟨G1770, eG1771, hg1772, S1773⟩ := Sep.freeze (O' := [p1750, p1740, p1730, D1689]) S1769 (.head _) h1767 fr1768 ((all_cons ⟨(.tail _ (.head _)), (ne_of_none h1756 n1762)⟩ (all_cons ⟨(.tail _ (.tail _ (.head _))), (ne_of_none (e1754 _ _ h1746) n1762)⟩ (all_cons ⟨(.tail _ (.tail _ (.tail _ (.head _)))), (ne_of_none h1760 n1762)⟩ (all_cons ⟨(.tail _ (.tail _ (.tail _ (.tail _ (.head _))))), (ne_of_none (e1754 _ _ (e1744 _ _ (e1734 _ _ h1714))) n1762)⟩ all_nil)))))
      have h1774 := (e1765 _ _ (e1754 _ _ (e1744 _ _ (e1734 _ _ h1714))))
      refine ⟨_, h1774, (app_len (RpAll.mono eG1771 d1719) z1728), ?_⟩
      generalize g1775 : upd H1764 D1689 _ = H1776
      obtain ⟨x1777, h1778⟩ := gen_mut g1775
      have S1779 := S1773.mut1 x1777 (.tail _ (.tail _ (.tail _ (.head _)))) h1778
      have hw := cW_ok hw
      exact ⟨_, (acc1717 ++ [(x1724) ++ (repL ([(itD (x1724) ((-1)))]) ((width' - (((x1724) : (List Int)).length : Int))))]), _, (Same.trans eG1716 eG1771), (S1779.sub (all_cons (.tail _ (.tail _ (.tail _ (.head _)))) all_nil)), h1778, (app_map (RpAll.mono eG1771 d1719) (RpAll.one (rp_mk_ints hg1772))), (same_mut (Same.trans (Same.trans (Same.trans (Same.trans eo1723 e1734) e1744) e1754) e1765) x1777 n1690), hw⟩
    intro H1780 hw
    obtain ⟨G1783, acc1785, vs1786, eG1784, S1781, h1782, d1787, eo1791, hw⟩ := hw
    have hw := hK1688 _ (cW_mapA0 (by rw [d1684.len, List.length_map]) hw)
    have fr1792 := S0.free n1690
    obtain ⟨g1793, hw⟩ := cW_grd hw
    obtain ⟨K1796, hK1797, hw⟩ := cW_push hw
    refine ⟨_, rfl, _, rfl, _, rfl, _, _, _, rfl, (SqL.of h1782), (by rw [d1787.len, List.length_map]), _, _, rfl, rfl, _, rfl, g1793.1, g1793.2, fun D1798 n1799 => lc_range (lo := 0) (n := Int.toNat ((height' - (((acc1785) : (List (List Int))).length : Int)))) (fun i H' => ∃ (G' : Hp) (acc1801 : (List (List Int))) (vs1802 : List V), Same G1783 G' ∧ Sep [] H G G' H' [D1798, D1689] ∧ H' D1689 = some (.lst (vs1786)) ∧ H' D1798 = some (.lst vs1802) ∧ RpAll G' vs1802 ((acc1801 : (List (List Int))).map (encL PyData.int)) ∧ Same H1780 H' ∧ cW (mapA (List.drop i (rng (0) (Int.toNat ((height' - (((acc1785) : (List (List Int))).length : Int)))))) acc1801 (fun x => noEr (F__law_padded_c2 (acc1785) x))) K1796 EE) ?_ ?_ ?_⟩
    · generalize g1803 : upd H1780 D1798 _ = H1804
      obtain ⟨e1805, h1806⟩ := gen_new n1799 g1803
      have fr1807 := S1781.free n1799
      have S1808 := S1781.new n1799 e1805 h1806 fr1807
      have h1809 := (e1805 _ _ h1782)
      exact ⟨_, [], [], Same.refl _, S1808, h1809, h1806, RpAll.nil, e1805, hw⟩
    · intro i H1810 hi hw
      obtain ⟨G1813, acc1815, vs1816, eG1814, S1811, h1822, h1812, d1817, eo1821, hw⟩ := hw
      obtain ⟨z1823, hw⟩ := cW_mapA (rng_get hi) hw
      generalize (0 + (i : Int)) = x1824 at hw ⊢
      have hw := cW_noEr hw
      have hw : cW (F__law_padded_c2 (acc1785) (x1824)) _ (fun _ => False) := hw
      unfold F__law_padded_c2 at hw
      refine ⟨rfl, ?_⟩
      refine tyes_go ?_
      obtain ⟨g1826, hw⟩ := cW_grd hw
      obtain ⟨v1827, a1828, r1829⟩ := RpAll.ixD (k := (-1)) (RpAll.mono eG1814 d1787) g1826
      obtain ⟨a1830, rfl, h1831⟩ := rp_ints r1829
      refine ⟨_, rfl, _, rfl, _, _, _, _, rfl, rfl, (SqL.of h1822), a1828, _, _, rfl, (SqL.of (S1811.sG _ _ h1831)), fun p1832 n1833 => ?_⟩
      generalize g1834 : upd H1810 p1832 _ = H1835
      obtain ⟨e1836, h1837⟩ := gen_new n1833 g1834
      have h1838 : H1835 p1832 = some (.lst (((itD (acc1785) ((-1))) : (List Int)).map V.int)) := h1837
      have fr1839 := S1811.free n1833
      have S1840 := S1811.new n1833 e1836 h1838 fr1839
      obtain ⟨G1841, eG1842, hg1843, S1844⟩ := Sep.freeze (O' := [D1798, D1689]) S1840 (.head _) h1838 fr1839 ((all_cons ⟨(.tail _ (.head _)), (ne_of_none h1812 n1833)⟩ (all_cons ⟨(.tail _ (.tail _ (.head _))), (ne_of_none h1822 n1833)⟩ all_nil)))
      have h1845 := (e1836 _ _ h1812)
      refine ⟨_, h1845, (app_len (RpAll.mono eG1842 d1817) z1823), ?_⟩
      generalize g1846 : upd H1835 D1798 _ = H1847
      obtain ⟨x1848, h1849⟩ := gen_mut g1846
      have S1850 := S1844.mut1 x1848 (.head _) h1849
      have hw := cW_ok hw
      have h1851 := (x1848 _ _ (e1836 _ _ h1822) (ne_of_none h1782 n1799))
      exact ⟨_, (acc1815 ++ [(itD (acc1785) ((-1)))]), _, (Same.trans eG1814 eG1842), S1850, h1851, h1849, (app_map (RpAll.mono eG1842 d1817) (RpAll.one (rp_mk_ints hg1843))), (same_mut (Same.trans eo1821 e1836) x1848 n1799), hw⟩
    intro H1852 hw
    obtain ⟨G1855, acc1857, vs1858, eG1856, S1853, h1864, h1854, d1859, eo1863, hw⟩ := hw
    have hw := hK1797 _ (cW_mapA0 (rng_len _ _).symm hw)
    have fr1865 := S1781.free n1799
    obtain ⟨g1866, hw⟩ := cW_grd hw
    obtain ⟨G1867, eG1868, hg1869, S1870⟩ := Sep.freeze (O' := [D1798]) S1853 (.tail _ (.head _)) h1864 fr1792 ((all_cons ⟨(.head _), (ne_of_none h1782 n1799).symm⟩ all_nil))
    obtain ⟨G1871, eG1872, hg1873, S1874⟩ := Sep.freeze (O' := []) S1870 (.head _) h1854 fr1865 (all_nil)
    refine ⟨_, _, _, _, rfl, rfl, h1864, h1854, (cat_len2 (RpAll.mono eG1856 d1787) d1859 g1866), fun p1875 n1876 => ?_⟩
    generalize g1877 : upd H1852 p1875 _ = H1878
    obtain ⟨e1879, h1880⟩ := gen_new n1876 g1877
    have h1881 : H1878 p1875 = some (.lst (vs1786 ++ vs1858)) := h1880
    have fr1882 := S1874.free n1876
    have S1883 := S1874.new n1876 e1879 h1881 fr1882
    have d1884 : RpAll G1871 (vs1786 ++ vs1858) (((acc1785) ++ (acc1857) : (List (List Int))).map (encL PyData.int)) := app_map (RpAll.mono eG1872 (RpAll.mono eG1868 (RpAll.mono eG1856 d1787))) (RpAll.mono eG1872 (RpAll.mono eG1868 d1859))
    obtain ⟨G1885, eG1886, hg1887, S1888⟩ := Sep.freeze (O' := []) S1883 (.head _) h1881 fr1882 (all_nil)
    have hw := cW_ok hw
    exact hK0 _ hw _ _ _ S1888.b0 S1888.g0 S1888.sG S1888.gn (rp_mk_list hg1887 (RpAll.mono eG1886 d1884))

abbrev N__law_spoilt : List Str := ["planes", "kind", "plane", "row", "sample", "rows", "other"]
theorem sc__law_spoilt : FnScope N__law_spoilt ["planes", "kind", "plane", "row", "sample"] (defScope s__law_spoilt) := ⟨rfl, rfl, rfl, by decide +kernel, rfl, by decide +kernel, by decide +kernel⟩
theorem ok__law_spoilt (D : DefX K mg "_law_spoilt" s__law_spoilt ["planes", "kind", "plane", "row", "sample"] pats__law_spoilt) (T : Txt w K mg AD) (c__law_copy : CalX P w K mg base 1 "_law_copy" (sp__law_copy K AD) pats__law_copy) : CalX P w K mg base 2 "_law_spoilt" (sp__law_spoilt K AD) pats__law_spoilt := by
  refine D.ok sc__law_spoilt (fun vs H Q E h => ?_) (fun f cdv A_ outer s H vs Q E hr h => ?_)
  · obtain ⟨G, v_planes, planes', kind', plane', row', sample', rfl, _⟩ := h
    rfl
  · obtain ⟨G, v_planes, planes', kind', plane', row', sample', rfl, sG, r_planes, hw⟩ := h
    refine ⟨_, (pss_cons (ps_set (i := 0) sc__law_spoilt.nd rfl (Or.inl rfl) (vx_callX c__law_copy pat__law_copy_0 (.head _) hr (by decide) (takes_of rfl rfl rfl rfl) rfl (pa_cons (pv 0) pa_nil) pk_nil))
      (pss_cons (ps_set (i := 2) sc__law_spoilt.nd rfl (Or.inl rfl) (pe_op op_mod (pe_callTy call_int1 (by rfl) T.b_int (by decide +kernel) (pa_cons (pv 2) pa_nil)) (pe_callB (call_lenLK (K := K)) (by rfl) T.b_len (by decide +kernel) (pa_cons (pv 0) pa_nil))))
      (pss_cons (ps_set (i := 5) sc__law_spoilt.nd rfl (Or.inl rfl) (pe_ix (ix_listK (K := K)) (pv 0) (pv 2) (fun _ _ => rfl)))
      (pss_cons (ps_set (i := 3) sc__law_spoilt.nd rfl (Or.inl rfl) (pe_op op_mod (pe_callTy call_int1 (by rfl) T.b_int (by decide +kernel) (pa_cons (pv 3) pa_nil)) (pe_callB (call_lenLK (K := K)) (by rfl) T.b_len (by decide +kernel) (pa_cons (pv 5) pa_nil))))
      (pss_cons (ps_if (pt_cmp (pc_eqI (pv 1) pe_int)) (pss_one (ps_ret (pe_op op_cat (pe_slice (sl_listK (K := K)) (pv 0) po_none (po_some (pv 2))) (pe_slice (sl_listK (K := K)) (pv 0) (po_some (pe_op op_add (pv 2) pe_int)) po_none)))) pss_nil)
      (pss_cons (ps_if (pt_cmp (pc_eqI (pv 1) pe_int)) (pss_one (ps_ret (pe_op op_cat (pv 0) (pe_lst (pa_cons (pv 5) pa_nil))))) pss_nil)
      (pss_cons (ps_if (pt_cmp (pc_eqI (pv 1) pe_int)) (pss_one (ps_asg (pe_op op_cat (pe_slice (sl_listK (K := K)) (pv 5) po_none (po_some (pv 3))) (pe_slice (sl_listK (K := K)) (pv 5) (po_some (pe_op op_add (pv 3) pe_int)) po_none)) (pg_sub (pv 0) (pv 2) set_list))) pss_nil)
      (pss_cons (ps_if (pt_cmp (pc_eqI (pv 1) pe_int)) (pss_one (ps_asg (pe_op op_cat (pe_op op_cat (pe_slice (sl_listK (K := K)) (pv 5) po_none (po_some (pv 3))) (pe_lst (pa_cons (pe_callTy (call_listLK (K := K)) (by rfl) T.b_list (by decide +kernel) (pa_cons (pe_ix (ix_listK (K := K)) (pv 5) (pv 3) (fun _ _ => rfl)) pa_nil)) pa_nil))) (pe_slice (sl_listK (K := K)) (pv 5) (po_some (pv 3)) po_none)) (pg_sub (pv 0) (pv 2) set_list))) pss_nil)
      (pss_cons (ps_if (pt_cmp (pc_eqI (pv 1) pe_int)) (pss_one (ps_asg (pe_slice (sl_listK (K := K)) (pe_ix (ix_listK (K := K)) (pv 5) (pv 3) (fun _ _ => rfl)) (po_some pe_int) po_none) (pg_sub (pv 5) (pv 3) set_list))) pss_nil)
      (pss_cons (ps_if (pt_cmp (pc_eqI (pv 1) pe_int)) (pss_one (ps_asg (pe_op op_cat (pe_ix (ix_listK (K := K)) (pv 5) (pv 3) (fun _ _ => rfl)) (pe_lst (pa_cons (pv 4) pa_nil))) (pg_sub (pv 5) (pv 3) set_list))) pss_nil)
      (pss_cons (ps_if (pt_cmp (pc_eqI (pv 1) pe_int)) (pss_cons (ps_set (i := 6) sc__law_spoilt.nd rfl (Or.inl rfl) (pe_op op_mod (pe_callTy call_int1 (by rfl) T.b_int (by decide +kernel) (pa_cons (pe_op op_add (pv 3) pe_int) pa_nil)) (pe_callB (call_lenLK (K := K)) (by rfl) T.b_len (by decide +kernel) (pa_cons (pv 5) pa_nil))))
      (pss_cons (ps_asg (pe_op op_cat (pe_ix (ix_listK (K := K)) (pv 5) (pv 6) (fun _ _ => rfl)) (pe_lst (pa_cons (pv 4) pa_nil))) (pg_sub (pv 5) (pv 6) set_list))
      (pss_one (ps_asg (pe_slice (sl_listK (K := K)) (pe_ix (ix_listK (K := K)) (pv 5) (pv 3) (fun _ _ => rfl)) (po_some pe_int) po_none) (pg_sub (pv 5) (pv 3) set_list))))) pss_nil)
      (pss_one (ps_ret (pv 0)))))))))))))), ?_⟩
    obtain ⟨KK, EE, hK0, hE, hw⟩ := cW_gen hw
    have S0 := Sep.startG sG
    unfold F__law_spoilt at hw
    obtain ⟨a1889, vs1890, rfl, h1891, d1892⟩ := rp_list r_planes
    refine ⟨_, rfl, rfl, rfl, G, _, _, rfl, S0.sG, (Rp.hide_nil (rp_mk_list (S0.bM _ _ h1891) (RpAll.mono S0.bM d1892))), cW_call hw (fun v1893 hw H1894 a1896 vs1897 L1898 G1899 n1900 nb1901 nd1902 e1895 eG1903 sG1904 hn1905 ga1906 gL1907 h1908 w1909 => ?_) (fun e he H2 e2 => hE e he H2 (Same.trans S0.b0 e2))⟩
    have fr1910 := S0.free n1900
    have S1911 : Sep _ _ _ _ H1894 (a1896 :: (L1898 ++ [])) := Sep.steptree S0 e1895 eG1903 sG1904 hn1905 (a1896 :: L1898) (all_cons ⟨n1900, ga1906, some_ne h1908⟩ (fun b hb => ⟨nb1901 b hb, gL1907 b hb, OwAll.there w1909 b hb⟩))
    refine ⟨_, rfl, .inl ⟨_, rfl, ?_⟩⟩
    obtain ⟨g1912, hw⟩ := cW_grd hw
    refine ⟨_, rfl, _, _, _, rfl, (SqL.of h1908), (by rw [(OwAll.rpA w1909 (encO_L (encO_L encO_I)) S1911.sG).len, List.length_map]), _, _, rfl, rfl, g1912, ?_⟩
    have hw := cW_bnd hw
    obtain ⟨g1914, hw⟩ := cW_grd hw
    obtain ⟨v1915, L1916, a1917, w1918, hs1919, up1920, gr1921⟩ := OwAll.partM (k := (plane' % (((v1893) : (List (List (List Int)))).length : Int))) w1909 g1914
    obtain ⟨b1922, vs1923, L1924, rfl, rfl, h1925, w1926, nb1927⟩ := Ow.toList w1918
    refine ⟨_, rfl, _, rfl, _, _, _, _, rfl, rfl, (SqL.of h1908), a1917, _, rfl, .inl ⟨_, rfl, ?_⟩⟩
    obtain ⟨g1928, hw⟩ := cW_grd hw
    refine ⟨_, rfl, _, _, _, rfl, (SqL.of h1925), (by rw [(OwAll.rpA w1926 (encO_L encO_I) S1911.sG).len, List.length_map]), _, _, rfl, rfl, g1928, ?_⟩
    have hw := cW_bnd hw
    refine ⟨_, rfl, _, _, rfl, rfl, _, rfl, ?_⟩
    refine iteD (fun c1930 => ?_) (fun c1930 => ?_)
    · have hw := cW_pos c1930 hw
      obtain ⟨G1931, eG1932, k1933, S1934⟩ := Sep.freezeL (L := (a1896 :: L1898)) (O' := []) S1911 ((all_cons (.head _) ((fun b hb => (.tail _ (List.mem_append_left _ hb))) : ∀ b ∈ L1898, b ∈ (a1896 :: (L1898 ++ [])))) : ∀ b ∈ (a1896 :: L1898), b ∈ (a1896 :: (L1898 ++ []))) ((all_cons fr1910 (fun b hb => Sep.h0 S1911 (((fun b hb => (.tail _ (List.mem_append_left _ hb))) : ∀ b ∈ L1898, b ∈ (a1896 :: (L1898 ++ []))) b hb) nm_nil)) : ∀ b ∈ (a1896 :: L1898), H b = none) (all_nil)
      have hg1935 := k1933 _ List.mem_cons_self _ h1908
      have d1936 := OwAll.rpH w1909 (encO_L (encO_L encO_I)) eG1932 (fun b hb => k1933 b (List.mem_cons_of_mem _ hb))
      refine ⟨_, rfl, _, rfl, _, rfl, _, _, rfl, (SqL.of h1908), fun p1937 n1938 => ?_⟩
      generalize g1939 : upd H1894 p1937 _ = H1940
      obtain ⟨e1941, h1942⟩ := gen_new n1938 g1939
      have h1943 : H1940 p1937 = some (.lst (cutV (vs1897) none (some ((plane' % (((v1893) : (List (List (List Int)))).length : Int)))))) := h1942
      have fr1944 := S1934.free n1938
      have S1945 := S1934.new n1938 e1941 h1943 fr1944
      have d1946 : RpAll G1931 (cutV (vs1897) none (some ((plane' % (((v1893) : (List (List (List Int)))).length : Int))))) ((cutL (v1893) none (some ((plane' % (((v1893) : (List (List (List Int)))).length : Int)))) : (List (List (List Int)))).map (encL (encL PyData.int))) := cut_all none (some ((plane' % (((v1893) : (List (List (List Int)))).length : Int)))) d1936
      refine ⟨_, rfl, _, rfl, _, _, rfl, rfl, _, rfl, _, _, rfl, (SqL.of (S1945.sG _ _ hg1935)), fun p1947 n1948 => ?_⟩
      generalize g1949 : upd H1940 p1947 _ = H1950
      obtain ⟨e1951, h1952⟩ := gen_new n1948 g1949
      have h1953 : H1950 p1947 = some (.lst (cutV (vs1897) (some (((plane' % (((v1893) : (List (List (List Int)))).length : Int)) + 1))) none)) := h1952
      have fr1954 := S1945.free n1948
      have S1955 := S1945.new n1948 e1951 h1953 fr1954
      have d1956 : RpAll G1931 (cutV (vs1897) (some (((plane' % (((v1893) : (List (List (List Int)))).length : Int)) + 1))) none) ((cutL (v1893) (some (((plane' % (((v1893) : (List (List (List Int)))).length : Int)) + 1))) none : (List (List (List Int)))).map (encL (encL PyData.int))) := cut_all (some (((plane' % (((v1893) : (List (List (List Int)))).length : Int)) + 1))) none d1936
      obtain ⟨g1957, hw⟩ := cW_grd hw
      have h1958 := (e1951 _ _ h1943)
      obtain ⟨G1959, eG1960, hg1961, S1962⟩ := Sep.freeze (O' := [p1947]) S1955 (.tail _ (.head _)) h1958 fr1944 ((all_cons ⟨(.head _), (ne_of_none h1943 n1948).symm⟩ all_nil))
      obtain ⟨G1963, eG1964, hg1965, S1966⟩ := Sep.freeze (O' := []) S1962 (.head _) h1953 fr1954 (all_nil)
      refine ⟨_, _, _, _, rfl, rfl, h1958, h1953, (cat_len2 d1946 d1956 g1957), fun p1967 n1968 => ?_⟩
      generalize g1969 : upd H1950 p1967 _ = H1970
      obtain ⟨e1971, h1972⟩ := gen_new n1968 g1969
      have h1973 : H1970 p1967 = some (.lst (cutV (vs1897) none (some ((plane' % (((v1893) : (List (List (List Int)))).length : Int)))) ++ cutV (vs1897) (some (((plane' % (((v1893) : (List (List (List Int)))).length : Int)) + 1))) none)) := h1972
      have fr1974 := S1966.free n1968
      have S1975 := S1966.new n1968 e1971 h1973 fr1974
      have d1976 : RpAll G1963 (cutV (vs1897) none (some ((plane' % (((v1893) : (List (List (List Int)))).length : Int)))) ++ cutV (vs1897) (some (((plane' % (((v1893) : (List (List (List Int)))).length : Int)) + 1))) none) (((cutL (v1893) none (some ((plane' % (((v1893) : (List (List (List Int)))).length : Int))))) ++ (cutL (v1893) (some (((plane' % (((v1893) : (List (List (List Int)))).length : Int)) + 1))) none) : (List (List (List Int)))).map (encL (encL PyData.int))) := app_map (RpAll.mono eG1964 (RpAll.mono eG1960 d1946)) (RpAll.mono eG1964 (RpAll.mono eG1960 d1956))
      obtain ⟨G1977, eG1978, hg1979, S1980⟩ := Sep.freeze (O' := []) S1975 (.head _) h1973 fr1974 (all_nil)
      have hw := cW_ok hw
      exact hK0 _ hw _ _ _ S1980.b0 S1980.g0 S1980.sG S1980.gn (rp_mk_list hg1979 (RpAll.mono eG1978 d1976))
    · have hw := cW_neg c1930 hw
      refine ⟨_, rfl, _, _, rfl, rfl, _, rfl, ?_⟩
      refine iteD (fun c1981 => ?_) (fun c1981 => ?_)
      · have hw := cW_pos c1981 hw
        obtain ⟨G1982, eG1983, k1984, S1985⟩ := Sep.freezeL (L := L1898) (O' := [a1896]) S1911 (((fun b hb => (.tail _ (List.mem_append_left _ hb))) : ∀ b ∈ L1898, b ∈ (a1896 :: (L1898 ++ []))) : ∀ b ∈ L1898, b ∈ (a1896 :: (L1898 ++ []))) ((fun b hb => Sep.h0 S1911 (((fun b hb => (.tail _ (List.mem_append_left _ hb))) : ∀ b ∈ L1898, b ∈ (a1896 :: (L1898 ++ []))) b hb) nm_nil) : ∀ b ∈ L1898, H b = none) ((all_cons ⟨(.head _), (fun z => nd1902 _ z rfl)⟩ all_nil))
        have d1986 := OwAll.rpH w1909 (encO_L (encO_L encO_I)) eG1983 k1984
        have w1987 := OwAll.frzs (H := H1894) d1986
        have r1988 := RpAll.at_ix d1986 g1914 a1917
        obtain ⟨hg1989, d1990⟩ := part_at r1988 S1985.sG h1925
        refine ⟨_, rfl, _, rfl, (by show 1 ≤ sizeLine; decide), fun p1991 n1992 => ?_⟩
        generalize g1993 : upd H1894 p1991 _ = H1994
        obtain ⟨e1995, h1996⟩ := gen_new n1992 g1993
        have h1997 : H1994 p1991 = some (.lst ([V.ref b1922])) := h1996
        have fr1998 := S1985.free n1992
        have S1999 := S1985.new n1992 e1995 h1997 fr1998
        have d2000 : RpAll G1982 ([V.ref b1922]) (([(itD (v1893) ((plane' % (((v1893) : (List (List (List Int)))).length : Int))))] : (List (List (List Int)))).map (encL (encL PyData.int))) := (RpAll.cons (rp_mk_list hg1989 d1990) RpAll.nil)
        obtain ⟨g2001, hw⟩ := cW_grd hw
        have h2002 := (e1995 _ _ h1908)
        have w2003 : OwAll G1982 H1994 ([] : List Addr) (vs1897) ((v1893 : (List (List (List Int)))).map (oF (encL (encL PyData.int)))) := (OwAll.mono (Same.refl _) (keeps_same e1995) w1987)
        obtain ⟨G2004, eG2005, k2006, S2007⟩ := Sep.freezeL (L := (a1896 :: ([] : List Addr))) (O' := [p1991]) S1999 ((all_cons (.tail _ (.head _)) all_nil) : ∀ b ∈ (a1896 :: ([] : List Addr)), b ∈ [p1991, a1896]) ((all_cons fr1910 all_nil) : ∀ b ∈ (a1896 :: ([] : List Addr)), H b = none) ((all_cons ⟨(.head _), (nm_cons (ne_of_none h1908 n1992).symm nm_nil)⟩ all_nil))
        have hg2008 := k2006 _ List.mem_cons_self _ h2002
        have d2009 := OwAll.rpH w2003 encO_F eG2005 (fun b hb => k2006 b (List.mem_cons_of_mem _ hb))
        obtain ⟨G2010, eG2011, hg2012, S2013⟩ := Sep.freeze (O' := []) S2007 (.head _) h1997 fr1998 (all_nil)
        refine ⟨_, _, _, _, rfl, rfl, h2002, h1997, (cat_len2 (OwAll.rpA w2003 encO_F S1999.sG) d2000 g2001), fun p2014 n2015 => ?_⟩
        generalize g2016 : upd H1994 p2014 _ = H2017
        obtain ⟨e2018, h2019⟩ := gen_new n2015 g2016
        have h2020 : H2017 p2014 = some (.lst (vs1897 ++ [V.ref b1922])) := h2019
        have fr2021 := S2013.free n2015
        have S2022 := S2013.new n2015 e2018 h2020 fr2021
        have d2023 : RpAll G2010 (vs1897 ++ [V.ref b1922]) (((v1893) ++ ([(itD (v1893) ((plane' % (((v1893) : (List (List (List Int)))).length : Int))))]) : (List (List (List Int)))).map (encL (encL PyData.int))) := app_map (RpAll.mono eG2011 d2009) (RpAll.mono eG2011 (RpAll.mono eG2005 d2000))
        obtain ⟨G2024, eG2025, hg2026, S2027⟩ := Sep.freeze (O' := []) S2022 (.head _) h2020 fr2021 (all_nil)
        have hw := cW_ok hw
        exact hK0 _ hw _ _ _ S2027.b0 S2027.g0 S2027.sG S2027.gn (rp_mk_list hg2026 (RpAll.mono eG2025 d2023))
      · have hw := cW_neg c1981 hw
        refine ⟨_, rfl, _, _, rfl, rfl, _, rfl, ?_⟩
        refine iteD (fun c2028 => ?_) (fun c2028 => ?_)
        · have hw := cW_pos c2028 hw
          obtain ⟨G2029, eG2030, k2031, S2032⟩ := Sep.freezeL (L := L1898) (O' := [a1896]) S1911 (((fun b hb => (.tail _ (List.mem_append_left _ hb))) : ∀ b ∈ L1898, b ∈ (a1896 :: (L1898 ++ []))) : ∀ b ∈ L1898, b ∈ (a1896 :: (L1898 ++ []))) ((fun b hb => Sep.h0 S1911 (((fun b hb => (.tail _ (List.mem_append_left _ hb))) : ∀ b ∈ L1898, b ∈ (a1896 :: (L1898 ++ []))) b hb) nm_nil) : ∀ b ∈ L1898, H b = none) ((all_cons ⟨(.head _), (fun z => nd1902 _ z rfl)⟩ all_nil))
          have d2033 := OwAll.rpH w1909 (encO_L (encO_L encO_I)) eG2030 k2031
          have w2034 := OwAll.frzs (H := H1894) d2033
          have r2035 := RpAll.at_ix d2033 g1914 a1917
          obtain ⟨hg2036, d2037⟩ := part_at r2035 S2032.sG h1925
          refine ⟨_, rfl, _, rfl, _, rfl, _, _, rfl, (SqL.of h1925), fun p2038 n2039 => ?_⟩
          generalize g2040 : upd H1894 p2038 _ = H2041
          obtain ⟨e2042, h2043⟩ := gen_new n2039 g2040
          have h2044 : H2041 p2038 = some (.lst (cutV (vs1923) none (some ((row' % ((((itD (v1893) ((plane' % (((v1893) : (List (List (List Int)))).length : Int))))) : (List (List Int))).length : Int)))))) := h2043
          have fr2045 := S2032.free n2039
          have S2046 := S2032.new n2039 e2042 h2044 fr2045
          have d2047 : RpAll G2029 (cutV (vs1923) none (some ((row' % ((((itD (v1893) ((plane' % (((v1893) : (List (List (List Int)))).length : Int))))) : (List (List Int))).length : Int))))) ((cutL ((itD (v1893) ((plane' % (((v1893) : (List (List (List Int)))).length : Int))))) none (some ((row' % ((((itD (v1893) ((plane' % (((v1893) : (List (List (List Int)))).length : Int))))) : (List (List Int))).length : Int)))) : (List (List Int))).map (encL PyData.int)) := cut_all none (some ((row' % ((((itD (v1893) ((plane' % (((v1893) : (List (List (List Int)))).length : Int))))) : (List (List Int))).length : Int)))) d2037
          refine ⟨_, rfl, _, rfl, _, _, rfl, rfl, _, rfl, _, _, rfl, (SqL.of (S2046.sG _ _ hg2036)), fun p2048 n2049 => ?_⟩
          generalize g2050 : upd H2041 p2048 _ = H2051
          obtain ⟨e2052, h2053⟩ := gen_new n2049 g2050
          have h2054 : H2051 p2048 = some (.lst (cutV (vs1923) (some (((row' % ((((itD (v1893) ((plane' % (((v1893) : (List (List (List Int)))).length : Int))))) : (List (List Int))).length : Int)) + 1))) none)) := h2053
          have fr2055 := S2046.free n2049
          have S2056 := S2046.new n2049 e2052 h2054 fr2055
          have d2057 : RpAll G2029 (cutV (vs1923) (some (((row' % ((((itD (v1893) ((plane' % (((v1893) : (List (List (List Int)))).length : Int))))) : (List (List Int))).length : Int)) + 1))) none) ((cutL ((itD (v1893) ((plane' % (((v1893) : (List (List (List Int)))).length : Int))))) (some (((row' % ((((itD (v1893) ((plane' % (((v1893) : (List (List (List Int)))).length : Int))))) : (List (List Int))).length : Int)) + 1))) none : (List (List Int))).map (encL PyData.int)) := cut_all (some (((row' % ((((itD (v1893) ((plane' % (((v1893) : (List (List (List Int)))).length : Int))))) : (List (List Int))).length : Int)) + 1))) none d2037
          obtain ⟨g2058, hw⟩ := cW_grd hw
          have h2059 := (e2052 _ _ h2044)
          obtain ⟨G2060, eG2061, hg2062, S2063⟩ := Sep.freeze (O' := [p2048, a1896]) S2056 (.tail _ (.head _)) h2059 fr2045 ((all_cons ⟨(.head _), (ne_of_none h2044 n2049).symm⟩ (all_cons ⟨(.tail _ (.tail _ (.head _))), (ne_of_none h1908 n2039)⟩ all_nil)))
          obtain ⟨G2064, eG2065, hg2066, S2067⟩ := Sep.freeze (O' := [a1896]) S2063 (.head _) h2054 fr2055 ((all_cons ⟨(.tail _ (.head _)), (ne_of_none (e2042 _ _ h1908) n2049)⟩ all_nil))
          refine ⟨_, _, _, _, rfl, rfl, h2059, h2054, (cat_len2 d2047 d2057 g2058), fun p2068 n2069 => ?_⟩
          generalize g2070 : upd H2051 p2068 _ = H2071
          obtain ⟨e2072, h2073⟩ := gen_new n2069 g2070
          have h2074 : H2071 p2068 = some (.lst (cutV (vs1923) none (some ((row' % ((((itD (v1893) ((plane' % (((v1893) : (List (List (List Int)))).length : Int))))) : (List (List Int))).length : Int)))) ++ cutV (vs1923) (some (((row' % ((((itD (v1893) ((plane' % (((v1893) : (List (List (List Int)))).length : Int))))) : (List (List Int))).length : Int)) + 1))) none)) := h2073
          have fr2075 := S2067.free n2069
          have S2076 := S2067.new n2069 e2072 h2074 fr2075
          have d2077 : RpAll G2064 (cutV (vs1923) none (some ((row' % ((((itD (v1893) ((plane' % (((v1893) : (List (List (List Int)))).length : Int))))) : (List (List Int))).length : Int)))) ++ cutV (vs1923) (some (((row' % ((((itD (v1893) ((plane' % (((v1893) : (List (List (List Int)))).length : Int))))) : (List (List Int))).length : Int)) + 1))) none) (((cutL ((itD (v1893) ((plane' % (((v1893) : (List (List (List Int)))).length : Int))))) none (some ((row' % ((((itD (v1893) ((plane' % (((v1893) : (List (List (List Int)))).length : Int))))) : (List (List Int))).length : Int))))) ++ (cutL ((itD (v1893) ((plane' % (((v1893) : (List (List (List Int)))).length : Int))))) (some (((row' % ((((itD (v1893) ((plane' % (((v1893) : (List (List (List Int)))).length : Int))))) : (List (List Int))).length : Int)) + 1))) none) : (List (List Int))).map (encL PyData.int)) := app_map (RpAll.mono eG2065 (RpAll.mono eG2061 d2047)) (RpAll.mono eG2065 (RpAll.mono eG2061 d2057))
          obtain ⟨g2078, hw⟩ := cW_grd hw
          obtain ⟨G2079, eG2080, hg2081, S2082⟩ := Sep.freeze (O' := [a1896]) S2076 (.head _) h2074 fr2075 ((all_cons ⟨(.tail _ (.head _)), (ne_of_none (e2052 _ _ (e2042 _ _ h1908)) n2069)⟩ all_nil))
          have w2083 : OwAll G2079 H2071 ([] : List Addr) (vs1897) ((v1893 : (List (List (List Int)))).map (oF (encL (encL PyData.int)))) := (OwAll.mono (Same.trans (Same.trans eG2061 eG2065) eG2080) keeps_refl (OwAll.mono (Same.refl _) (keeps_same e2072) (OwAll.mono (Same.refl _) (keeps_same e2052) (OwAll.mono (Same.refl _) (keeps_same e2042) w2034))))
          have h2084 := (e2072 _ _ (e2052 _ _ (e2042 _ _ h1908)))
          refine ⟨_, rfl, _, rfl, _, _, _, _, rfl, rfl, h2084, (ixN_len w2083.lenM g2078), ?_⟩
          obtain ⟨L2085, hL2086, w2087⟩ := OwAll.setM w2083 g2078 (Ow.frz (rp_mk_list hg2081 (RpAll.mono eG2080 d2077))) (all_nil : ∀ b ∈ ([] : List Addr), b ∉ ([] : List Addr))
          generalize g2089 : upd H2071 a1896 _ = H2090
          obtain ⟨x2091, h2092⟩ := gen_mut g2089
          have h2093 : H2090 a1896 = some (.lst ((vs1897).set ((ixN (vs1897).length ((plane' % (((v1893) : (List (List (List Int)))).length : Int)))).getD 0) (V.ref p2068))) := h2092
          have S2094 := S2082.mut1 x2091 (.head _) h2093
          have w2088 : OwAll G2079 H2090 L2085 ((vs1897).set ((ixN (vs1897).length ((plane' % (((v1893) : (List (List (List Int)))).length : Int)))).getD 0) (V.ref p2068)) ((setL (v1893) ((plane' % (((v1893) : (List (List (List Int)))).length : Int))) ((cutL ((itD (v1893) ((plane' % (((v1893) : (List (List (List Int)))).length : Int))))) none (some ((row' % ((((itD (v1893) ((plane' % (((v1893) : (List (List (List Int)))).length : Int))))) : (List (List Int))).length : Int))))) ++ (cutL ((itD (v1893) ((plane' % (((v1893) : (List (List (List Int)))).length : Int))))) (some (((row' % ((((itD (v1893) ((plane' % (((v1893) : (List (List (List Int)))).length : Int))))) : (List (List Int))).length : Int)) + 1))) none)) : (List (List (List Int)))).map (oF (encL (encL PyData.int)))) := OwAll.mono (Same.refl _) (keeps_mut x2091 ((fun b hb => ((all_app all_nil all_nil) : ∀ b ∈ (([] : List Addr) ++ ([] : List Addr)), b ≠ a1896) b (hL2086 b hb)) : ∀ b ∈ L2085, b ≠ a1896)) w2087
          have hw := cW_bnd hw
          refine ⟨_, rfl, _, _, rfl, rfl, _, rfl, ?_⟩
          refine iteD (fun c2096 => ?_) (fun c2096 => ?_)
          · exact absurd (c2096.symm.trans c2028) (by decide)
          · have hw := cW_neg c2096 hw
            refine ⟨_, rfl, _, _, rfl, rfl, _, rfl, ?_⟩
            refine iteD (fun c2097 => ?_) (fun c2097 => ?_)
            · exact absurd (c2097.symm.trans c2028) (by decide)
            · have hw := cW_neg c2097 hw
              refine ⟨_, rfl, _, _, rfl, rfl, _, rfl, ?_⟩
              refine iteD (fun c2098 => ?_) (fun c2098 => ?_)
              · exact absurd (c2098.symm.trans c2028) (by decide)
              · have hw := cW_neg c2098 hw
                refine ⟨_, rfl, _, _, rfl, rfl, _, rfl, ?_⟩
                refine iteD (fun c2099 => ?_) (fun c2099 => ?_)
                · exact absurd (c2099.symm.trans c2028) (by decide)
                · have hw := cW_neg c2099 hw
                  refine ⟨_, rfl, ?_⟩
                  obtain ⟨G2100, eG2101, k2102, S2103⟩ := Sep.freezeL (L := (a1896 :: L2085)) (O' := []) S2094 ((all_cons (.head _) (fun b hb => ((all_app all_nil all_nil) : ∀ b ∈ (([] : List Addr) ++ ([] : List Addr)), b ∈ [a1896]) b (hL2086 b hb))) : ∀ b ∈ (a1896 :: L2085), b ∈ [a1896]) ((all_cons fr1910 (fun b hb => Sep.h0 S2094 ((fun b hb => ((all_app all_nil all_nil) : ∀ b ∈ (([] : List Addr) ++ ([] : List Addr)), b ∈ [a1896]) b (hL2086 b hb)) b hb) nm_nil)) : ∀ b ∈ (a1896 :: L2085), H b = none) (all_nil)
                  have hg2104 := k2102 _ List.mem_cons_self _ h2093
                  have d2105 := OwAll.rpH w2088 encO_F eG2101 (fun b hb => k2102 b (List.mem_cons_of_mem _ hb))
                  have hw := cW_ok hw
                  exact hK0 _ hw _ _ _ S2103.b0 S2103.g0 S2103.sG S2103.gn (rp_mk_list hg2104 d2105)
        · have hw := cW_neg c2028 hw
          refine ⟨_, rfl, _, _, rfl, rfl, _, rfl, ?_⟩
          refine iteD (fun c2106 => ?_) (fun c2106 => ?_)
          · have hw := cW_pos c2106 hw
            obtain ⟨G2107, eG2108, k2109, S2110⟩ := Sep.freezeL (L := L1898) (O' := [a1896]) S1911 (((fun b hb => (.tail _ (List.mem_append_left _ hb))) : ∀ b ∈ L1898, b ∈ (a1896 :: (L1898 ++ []))) : ∀ b ∈ L1898, b ∈ (a1896 :: (L1898 ++ []))) ((fun b hb => Sep.h0 S1911 (((fun b hb => (.tail _ (List.mem_append_left _ hb))) : ∀ b ∈ L1898, b ∈ (a1896 :: (L1898 ++ []))) b hb) nm_nil) : ∀ b ∈ L1898, H b = none) ((all_cons ⟨(.head _), (fun z => nd1902 _ z rfl)⟩ all_nil))
            have d2111 := OwAll.rpH w1909 (encO_L (encO_L encO_I)) eG2108 k2109
            have w2112 := OwAll.frzs (H := H1894) d2111
            have r2113 := RpAll.at_ix d2111 g1914 a1917
            obtain ⟨hg2114, d2115⟩ := part_at r2113 S2110.sG h1925
            refine ⟨_, rfl, _, rfl, _, rfl, _, _, rfl, (SqL.of h1925), fun p2116 n2117 => ?_⟩
            generalize g2118 : upd H1894 p2116 _ = H2119
            obtain ⟨e2120, h2121⟩ := gen_new n2117 g2118
            have h2122 : H2119 p2116 = some (.lst (cutV (vs1923) none (some ((row' % ((((itD (v1893) ((plane' % (((v1893) : (List (List (List Int)))).length : Int))))) : (List (List Int))).length : Int)))))) := h2121
            have fr2123 := S2110.free n2117
            have S2124 := S2110.new n2117 e2120 h2122 fr2123
            have d2125 : RpAll G2107 (cutV (vs1923) none (some ((row' % ((((itD (v1893) ((plane' % (((v1893) : (List (List (List Int)))).length : Int))))) : (List (List Int))).length : Int))))) ((cutL ((itD (v1893) ((plane' % (((v1893) : (List (List (List Int)))).length : Int))))) none (some ((row' % ((((itD (v1893) ((plane' % (((v1893) : (List (List (List Int)))).length : Int))))) : (List (List Int))).length : Int)))) : (List (List Int))).map (encL PyData.int)) := cut_all none (some ((row' % ((((itD (v1893) ((plane' % (((v1893) : (List (List (List Int)))).length : Int))))) : (List (List Int))).length : Int)))) d2115
            obtain ⟨g2126, hw⟩ := cW_grd hw
            obtain ⟨v2127, a2128, r2129⟩ := RpAll.ixD (k := (row' % ((((itD (v1893) ((plane' % (((v1893) : (List (List (List Int)))).length : Int))))) : (List (List Int))).length : Int))) d2115 g2126
            obtain ⟨a2130, rfl, h2131⟩ := rp_ints r2129
            refine ⟨_, rfl, _, rfl, _, _, _, _, rfl, rfl, (SqL.of (S2124.sG _ _ hg2114)), a2128, _, _, rfl, (SqL.of (S2124.sG _ _ h2131)), fun p2132 n2133 => ?_⟩
            generalize g2134 : upd H2119 p2132 _ = H2135
            obtain ⟨e2136, h2137⟩ := gen_new n2133 g2134
            have h2138 : H2135 p2132 = some (.lst (((itD ((itD (v1893) ((plane' % (((v1893) : (List (List (List Int)))).length : Int))))) ((row' % ((((itD (v1893) ((plane' % (((v1893) : (List (List (List Int)))).length : Int))))) : (List (List Int))).length : Int)))) : (List Int)).map V.int)) := h2137
            have fr2139 := S2124.free n2133
            have S2140 := S2124.new n2133 e2136 h2138 fr2139
            obtain ⟨G2141, eG2142, hg2143, S2144⟩ := Sep.freeze (O' := [p2116, a1896]) S2140 (.head _) h2138 fr2139 ((all_cons ⟨(.tail _ (.head _)), (ne_of_none h2122 n2133)⟩ (all_cons ⟨(.tail _ (.tail _ (.head _))), (ne_of_none (e2120 _ _ h1908) n2133)⟩ all_nil)))
            refine ⟨(by show 1 ≤ sizeLine; decide), fun p2145 n2146 => ?_⟩
            generalize g2147 : upd H2135 p2145 _ = H2148
            obtain ⟨e2149, h2150⟩ := gen_new n2146 g2147
            have h2151 : H2148 p2145 = some (.lst ([V.ref p2132])) := h2150
            have fr2152 := S2144.free n2146
            have S2153 := S2144.new n2146 e2149 h2151 fr2152
            have d2154 : RpAll G2141 ([V.ref p2132]) (([(itD ((itD (v1893) ((plane' % (((v1893) : (List (List (List Int)))).length : Int))))) ((row' % ((((itD (v1893) ((plane' % (((v1893) : (List (List (List Int)))).length : Int))))) : (List (List Int))).length : Int))))] : (List (List Int))).map (encL PyData.int)) := (RpAll.cons (rp_mk_ints hg2143) RpAll.nil)
            obtain ⟨g2155, hw⟩ := cW_grd hw
            have h2156 := (e2149 _ _ (e2136 _ _ h2122))
            obtain ⟨G2157, eG2158, hg2159, S2160⟩ := Sep.freeze (O' := [p2145, a1896]) S2153 (.tail _ (.head _)) h2156 fr2123 ((all_cons ⟨(.head _), (ne_of_none (e2136 _ _ h2122) n2146).symm⟩ (all_cons ⟨(.tail _ (.tail _ (.head _))), (ne_of_none h1908 n2117)⟩ all_nil)))
            obtain ⟨G2161, eG2162, hg2163, S2164⟩ := Sep.freeze (O' := [a1896]) S2160 (.head _) h2151 fr2152 ((all_cons ⟨(.tail _ (.head _)), (ne_of_none (e2136 _ _ (e2120 _ _ h1908)) n2146)⟩ all_nil))
            refine ⟨_, _, _, _, rfl, rfl, h2156, h2151, (cat_len2 (RpAll.mono eG2142 d2125) d2154 g2155), fun p2165 n2166 => ?_⟩
            generalize g2167 : upd H2148 p2165 _ = H2168
            obtain ⟨e2169, h2170⟩ := gen_new n2166 g2167
            have h2171 : H2168 p2165 = some (.lst (cutV (vs1923) none (some ((row' % ((((itD (v1893) ((plane' % (((v1893) : (List (List (List Int)))).length : Int))))) : (List (List Int))).length : Int)))) ++ [V.ref p2132])) := h2170
            have fr2172 := S2164.free n2166
            have S2173 := S2164.new n2166 e2169 h2171 fr2172
            have d2174 : RpAll G2161 (cutV (vs1923) none (some ((row' % ((((itD (v1893) ((plane' % (((v1893) : (List (List (List Int)))).length : Int))))) : (List (List Int))).length : Int)))) ++ [V.ref p2132]) (((cutL ((itD (v1893) ((plane' % (((v1893) : (List (List (List Int)))).length : Int))))) none (some ((row' % ((((itD (v1893) ((plane' % (((v1893) : (List (List (List Int)))).length : Int))))) : (List (List Int))).length : Int))))) ++ ([(itD ((itD (v1893) ((plane' % (((v1893) : (List (List (List Int)))).length : Int))))) ((row' % ((((itD (v1893) ((plane' % (((v1893) : (List (List (List Int)))).length : Int))))) : (List (List Int))).length : Int))))]) : (List (List Int))).map (encL PyData.int)) := app_map (RpAll.mono eG2162 (RpAll.mono eG2158 (RpAll.mono eG2142 d2125))) (RpAll.mono eG2162 (RpAll.mono eG2158 d2154))
            refine ⟨_, rfl, _, rfl, _, rfl, _, _, rfl, (SqL.of (S2173.sG _ _ (eG2162 _ _ (eG2158 _ _ (eG2142 _ _ hg2114))))), fun p2175 n2176 => ?_⟩
            generalize g2177 : upd H2168 p2175 _ = H2178
            obtain ⟨e2179, h2180⟩ := gen_new n2176 g2177
            have h2181 : H2178 p2175 = some (.lst (cutV (vs1923) (some ((row' % ((((itD (v1893) ((plane' % (((v1893) : (List (List (List Int)))).length : Int))))) : (List (List Int))).length : Int)))) none)) := h2180
            have fr2182 := S2173.free n2176
            have S2183 := S2173.new n2176 e2179 h2181 fr2182
            have d2184 : RpAll G2161 (cutV (vs1923) (some ((row' % ((((itD (v1893) ((plane' % (((v1893) : (List (List (List Int)))).length : Int))))) : (List (List Int))).length : Int)))) none) ((cutL ((itD (v1893) ((plane' % (((v1893) : (List (List (List Int)))).length : Int))))) (some ((row' % ((((itD (v1893) ((plane' % (((v1893) : (List (List (List Int)))).length : Int))))) : (List (List Int))).length : Int)))) none : (List (List Int))).map (encL PyData.int)) := cut_all (some ((row' % ((((itD (v1893) ((plane' % (((v1893) : (List (List (List Int)))).length : Int))))) : (List (List Int))).length : Int)))) none (RpAll.mono eG2162 (RpAll.mono eG2158 (RpAll.mono eG2142 d2115)))
            obtain ⟨g2185, hw⟩ := cW_grd hw
            have h2186 := (e2179 _ _ h2171)
            obtain ⟨G2187, eG2188, hg2189, S2190⟩ := Sep.freeze (O' := [p2175, a1896]) S2183 (.tail _ (.head _)) h2186 fr2172 ((all_cons ⟨(.head _), (ne_of_none h2171 n2176).symm⟩ (all_cons ⟨(.tail _ (.tail _ (.head _))), (ne_of_none (e2149 _ _ (e2136 _ _ (e2120 _ _ h1908))) n2166)⟩ all_nil)))
            obtain ⟨G2191, eG2192, hg2193, S2194⟩ := Sep.freeze (O' := [a1896]) S2190 (.head _) h2181 fr2182 ((all_cons ⟨(.tail _ (.head _)), (ne_of_none (e2169 _ _ (e2149 _ _ (e2136 _ _ (e2120 _ _ h1908)))) n2176)⟩ all_nil))
            refine ⟨_, _, _, _, rfl, rfl, h2186, h2181, (cat_len2 d2174 d2184 g2185), fun p2195 n2196 => ?_⟩
            generalize g2197 : upd H2178 p2195 _ = H2198
            obtain ⟨e2199, h2200⟩ := gen_new n2196 g2197
            have h2201 : H2198 p2195 = some (.lst (cutV (vs1923) none (some ((row' % ((((itD (v1893) ((plane' % (((v1893) : (List (List (List Int)))).length : Int))))) : (List (List Int))).length : Int)))) ++ [V.ref p2132] ++ cutV (vs1923) (some ((row' % ((((itD (v1893) ((plane' % (((v1893) : (List (List (List Int)))).length : Int))))) : (List (List Int))).length : Int)))) none)) := h2200
            have fr2202 := S2194.free n2196
            have S2203 := S2194.new n2196 e2199 h2201 fr2202
            have d2204 : RpAll G2191 (cutV (vs1923) none (some ((row' % ((((itD (v1893) ((plane' % (((v1893) : (List (List (List Int)))).length : Int))))) : (List (List Int))).length : Int)))) ++ [V.ref p2132] ++ cutV (vs1923) (some ((row' % ((((itD (v1893) ((plane' % (((v1893) : (List (List (List Int)))).length : Int))))) : (List (List Int))).length : Int)))) none) ((((cutL ((itD (v1893) ((plane' % (((v1893) : (List (List (List Int)))).length : Int))))) none (some ((row' % ((((itD (v1893) ((plane' % (((v1893) : (List (List (List Int)))).length : Int))))) : (List (List Int))).length : Int))))) ++ ([(itD ((itD (v1893) ((plane' % (((v1893) : (List (List (List Int)))).length : Int))))) ((row' % ((((itD (v1893) ((plane' % (((v1893) : (List (List (List Int)))).length : Int))))) : (List (List Int))).length : Int))))])) ++ (cutL ((itD (v1893) ((plane' % (((v1893) : (List (List (List Int)))).length : Int))))) (some ((row' % ((((itD (v1893) ((plane' % (((v1893) : (List (List (List Int)))).length : Int))))) : (List (List Int))).length : Int)))) none) : (List (List Int))).map (encL PyData.int)) := app_map (RpAll.mono eG2192 (RpAll.mono eG2188 d2174)) (RpAll.mono eG2192 (RpAll.mono eG2188 d2184))
            obtain ⟨g2205, hw⟩ := cW_grd hw
            obtain ⟨G2206, eG2207, hg2208, S2209⟩ := Sep.freeze (O' := [a1896]) S2203 (.head _) h2201 fr2202 ((all_cons ⟨(.tail _ (.head _)), (ne_of_none (e2179 _ _ (e2169 _ _ (e2149 _ _ (e2136 _ _ (e2120 _ _ h1908))))) n2196)⟩ all_nil))
            have w2210 : OwAll G2206 H2198 ([] : List Addr) (vs1897) ((v1893 : (List (List (List Int)))).map (oF (encL (encL PyData.int)))) := (OwAll.mono (Same.trans (Same.trans (Same.trans (Same.trans (Same.trans eG2142 eG2158) eG2162) eG2188) eG2192) eG2207) keeps_refl (OwAll.mono (Same.refl _) (keeps_same e2199) (OwAll.mono (Same.refl _) (keeps_same e2179) (OwAll.mono (Same.refl _) (keeps_same e2169) (OwAll.mono (Same.refl _) (keeps_same e2149) (OwAll.mono (Same.refl _) (keeps_same e2136) (OwAll.mono (Same.refl _) (keeps_same e2120) w2112)))))))
            have h2211 := (e2199 _ _ (e2179 _ _ (e2169 _ _ (e2149 _ _ (e2136 _ _ (e2120 _ _ h1908))))))
            refine ⟨_, rfl, _, rfl, _, _, _, _, rfl, rfl, h2211, (ixN_len w2210.lenM g2205), ?_⟩
            obtain ⟨L2212, hL2213, w2214⟩ := OwAll.setM w2210 g2205 (Ow.frz (rp_mk_list hg2208 (RpAll.mono eG2207 d2204))) (all_nil : ∀ b ∈ ([] : List Addr), b ∉ ([] : List Addr))
            generalize g2216 : upd H2198 a1896 _ = H2217
            obtain ⟨x2218, h2219⟩ := gen_mut g2216
            have h2220 : H2217 a1896 = some (.lst ((vs1897).set ((ixN (vs1897).length ((plane' % (((v1893) : (List (List (List Int)))).length : Int)))).getD 0) (V.ref p2195))) := h2219
            have S2221 := S2209.mut1 x2218 (.head _) h2220
            have w2215 : OwAll G2206 H2217 L2212 ((vs1897).set ((ixN (vs1897).length ((plane' % (((v1893) : (List (List (List Int)))).length : Int)))).getD 0) (V.ref p2195)) ((setL (v1893) ((plane' % (((v1893) : (List (List (List Int)))).length : Int))) (((cutL ((itD (v1893) ((plane' % (((v1893) : (List (List (List Int)))).length : Int))))) none (some ((row' % ((((itD (v1893) ((plane' % (((v1893) : (List (List (List Int)))).length : Int))))) : (List (List Int))).length : Int))))) ++ ([(itD ((itD (v1893) ((plane' % (((v1893) : (List (List (List Int)))).length : Int))))) ((row' % ((((itD (v1893) ((plane' % (((v1893) : (List (List (List Int)))).length : Int))))) : (List (List Int))).length : Int))))])) ++ (cutL ((itD (v1893) ((plane' % (((v1893) : (List (List (List Int)))).length : Int))))) (some ((row' % ((((itD (v1893) ((plane' % (((v1893) : (List (List (List Int)))).length : Int))))) : (List (List Int))).length : Int)))) none)) : (List (List (List Int)))).map (oF (encL (encL PyData.int)))) := OwAll.mono (Same.refl _) (keeps_mut x2218 ((fun b hb => ((all_app all_nil all_nil) : ∀ b ∈ (([] : List Addr) ++ ([] : List Addr)), b ≠ a1896) b (hL2213 b hb)) : ∀ b ∈ L2212, b ≠ a1896)) w2214
            have hw := cW_bnd hw
            refine ⟨_, rfl, _, _, rfl, rfl, _, rfl, ?_⟩
            refine iteD (fun c2223 => ?_) (fun c2223 => ?_)
            · exact absurd (c2223.symm.trans c2106) (by decide)
            · have hw := cW_neg c2223 hw
              refine ⟨_, rfl, _, _, rfl, rfl, _, rfl, ?_⟩
              refine iteD (fun c2224 => ?_) (fun c2224 => ?_)
              · exact absurd (c2224.symm.trans c2106) (by decide)
              · have hw := cW_neg c2224 hw
                refine ⟨_, rfl, _, _, rfl, rfl, _, rfl, ?_⟩
                refine iteD (fun c2225 => ?_) (fun c2225 => ?_)
                · exact absurd (c2225.symm.trans c2106) (by decide)
                · have hw := cW_neg c2225 hw
                  refine ⟨_, rfl, ?_⟩
                  obtain ⟨G2226, eG2227, k2228, S2229⟩ := Sep.freezeL (L := (a1896 :: L2212)) (O' := []) S2221 ((all_cons (.head _) (fun b hb => ((all_app all_nil all_nil) : ∀ b ∈ (([] : List Addr) ++ ([] : List Addr)), b ∈ [a1896]) b (hL2213 b hb))) : ∀ b ∈ (a1896 :: L2212), b ∈ [a1896]) ((all_cons fr1910 (fun b hb => Sep.h0 S2221 ((fun b hb => ((all_app all_nil all_nil) : ∀ b ∈ (([] : List Addr) ++ ([] : List Addr)), b ∈ [a1896]) b (hL2213 b hb)) b hb) nm_nil)) : ∀ b ∈ (a1896 :: L2212), H b = none) (all_nil)
                  have hg2230 := k2228 _ List.mem_cons_self _ h2220
                  have d2231 := OwAll.rpH w2215 encO_F eG2227 (fun b hb => k2228 b (List.mem_cons_of_mem _ hb))
                  have hw := cW_ok hw
                  exact hK0 _ hw _ _ _ S2229.b0 S2229.g0 S2229.sG S2229.gn (rp_mk_list hg2230 d2231)
          · have hw := cW_neg c2106 hw
            refine ⟨_, rfl, _, _, rfl, rfl, _, rfl, ?_⟩
            refine iteD (fun c2232 => ?_) (fun c2232 => ?_)
            · have hw := cW_pos c2232 hw
              obtain ⟨g2233, hw⟩ := cW_grd hw
              obtain ⟨v2234, L2235, a2236, w2237, hs2238, up2239, gr2240⟩ := OwAll.partM (k := (row' % ((((itD (v1893) ((plane' % (((v1893) : (List (List (List Int)))).length : Int))))) : (List (List Int))).length : Int))) w1926 g2233
              obtain ⟨b2241, rfl, rfl, h2242⟩ := Ow.toInts w2237
              refine ⟨_, rfl, _, rfl, _, _, _, _, rfl, rfl, (SqL.of h1925), a2236, _, rfl, _, _, rfl, (SqL.of h2242), fun p2243 n2244 => ?_⟩
              generalize g2245 : upd H1894 p2243 _ = H2246
              obtain ⟨e2247, h2248⟩ := gen_new n2244 g2245
              have h2249 : H2246 p2243 = some (.lst ((cutL ((itD ((itD (v1893) ((plane' % (((v1893) : (List (List (List Int)))).length : Int))))) ((row' % ((((itD (v1893) ((plane' % (((v1893) : (List (List (List Int)))).length : Int))))) : (List (List Int))).length : Int))))) (some (1)) none : (List Int)).map V.int)) := cut_map h2248
              have fr2250 := S1911.free n2244
              have S2251 := S1911.new n2244 e2247 h2249 fr2250
              obtain ⟨g2252, hw⟩ := cW_grd hw
              have w2253 : OwAll G1899 H2246 L1924 (vs1923) (((itD (v1893) ((plane' % (((v1893) : (List (List (List Int)))).length : Int)))) : (List (List Int))).map (oL oI)) := (OwAll.mono (Same.refl _) (keeps_same e2247) w1926)
              have h2254 := (e2247 _ _ h1925)
              refine ⟨_, rfl, _, rfl, _, _, _, _, rfl, rfl, h2254, (ixN_len w2253.lenM g2252), ?_⟩
              obtain ⟨L2255, hL2256, w2257⟩ := OwAll.setM w2253 g2252 (Ow.ints h2249) ((all_cons (fun z => (fun b hb => ((there_ne (fun b_ hb_ => (S1911.ow b_ (((fun b hb => (.tail _ (List.mem_append_left _ hb))) : ∀ b ∈ L1898, b ∈ (a1896 :: (L1898 ++ []))) b_ hb_)).2.1) n2244) : ∀ b ∈ L1898, b ≠ p2243) b ((fun c hc => hs1919 c (List.mem_cons_of_mem _ hc)) b hb)) _ z rfl) all_nil) : ∀ b ∈ (p2243 :: ([] : List Addr)), b ∉ L1924)
              generalize g2259 : upd H2246 b1922 _ = H2260
              obtain ⟨x2261, h2262⟩ := gen_mut g2259
              have h2263 : H2260 b1922 = some (.lst ((vs1923).set ((ixN (vs1923).length ((row' % ((((itD (v1893) ((plane' % (((v1893) : (List (List (List Int)))).length : Int))))) : (List (List Int))).length : Int)))).getD 0) (V.ref p2243))) := h2262
              have S2264 := S2251.mut1 x2261 ((((fun b hb => (.tail _ (.tail _ (List.mem_append_left _ hb)))) : ∀ b ∈ L1898, b ∈ (p2243 :: (a1896 :: (L1898 ++ [])))) : ∀ b ∈ L1898, b ∈ (p2243 :: (a1896 :: (L1898 ++ [])))) _ (hs1919 _ List.mem_cons_self)) h2263
              have w2258 : OwAll G1899 H2260 L2255 ((vs1923).set ((ixN (vs1923).length ((row' % ((((itD (v1893) ((plane' % (((v1893) : (List (List (List Int)))).length : Int))))) : (List (List Int))).length : Int)))).getD 0) (V.ref p2243)) ((setL ((itD (v1893) ((plane' % (((v1893) : (List (List (List Int)))).length : Int))))) ((row' % ((((itD (v1893) ((plane' % (((v1893) : (List (List (List Int)))).length : Int))))) : (List (List Int))).length : Int))) (cutL ((itD ((itD (v1893) ((plane' % (((v1893) : (List (List (List Int)))).length : Int))))) ((row' % ((((itD (v1893) ((plane' % (((v1893) : (List (List (List Int)))).length : Int))))) : (List (List Int))).length : Int))))) (some (1)) none) : (List (List Int))).map (oL oI)) := OwAll.mono (Same.refl _) (keeps_mut x2261 ((fun b hb => ((all_app nb1927 (all_cons ((there_ne (fun b_ hb_ => (S1911.ow b_ (((fun b hb => (.tail _ (List.mem_append_left _ hb))) : ∀ b ∈ L1898, b ∈ (a1896 :: (L1898 ++ []))) b_ hb_)).2.1) n2244) _ (hs1919 _ List.mem_cons_self)).symm all_nil)) : ∀ b ∈ (L1924 ++ (p2243 :: ([] : List Addr))), b ≠ b1922) b (hL2256 b hb)) : ∀ b ∈ L2255, b ≠ b1922)) w2257
              obtain ⟨L2265, hL2266, w2267⟩ := gr1921 H2260 _ (p2243 :: ([] : List Addr)) (b1922 :: L2255) (grow_keeps e2247 x2261 List.mem_cons_self) (grow_sub hL2256) ((all_cons (fun z => (there_ne (fun b_ hb_ => (S1911.ow b_ (((fun b hb => (.tail _ (List.mem_append_left _ hb))) : ∀ b ∈ L1898, b ∈ (a1896 :: (L1898 ++ []))) b_ hb_)).2.1) n2244) _ z rfl) all_nil) : ∀ b ∈ (p2243 :: ([] : List Addr)), b ∉ L1898) (Ow.list h2263 w2258 ((fun b hb => ((all_app nb1927 (all_cons ((there_ne (fun b_ hb_ => (S1911.ow b_ (((fun b hb => (.tail _ (List.mem_append_left _ hb))) : ∀ b ∈ L1898, b ∈ (a1896 :: (L1898 ++ []))) b_ hb_)).2.1) n2244) _ (hs1919 _ List.mem_cons_self)).symm all_nil)) : ∀ b ∈ (L1924 ++ (p2243 :: ([] : List Addr))), b ≠ b1922) b (hL2256 b hb)) : ∀ b ∈ L2255, b ≠ b1922))
              have w2268 : OwAll G1899 H2260 L2265 (vs1897) ((setL (v1893) ((plane' % (((v1893) : (List (List (List Int)))).length : Int))) (setL ((itD (v1893) ((plane' % (((v1893) : (List (List (List Int)))).length : Int))))) ((row' % ((((itD (v1893) ((plane' % (((v1893) : (List (List (List Int)))).length : Int))))) : (List (List Int))).length : Int))) (cutL ((itD ((itD (v1893) ((plane' % (((v1893) : (List (List (List Int)))).length : Int))))) ((row' % ((((itD (v1893) ((plane' % (((v1893) : (List (List (List Int)))).length : Int))))) : (List (List Int))).length : Int))))) (some (1)) none)) : (List (List (List Int)))).map (oL (oL oI))) := w2267
              have hw := cW_bnd hw
              refine ⟨_, rfl, _, _, rfl, rfl, _, rfl, ?_⟩
              refine iteD (fun c2270 => ?_) (fun c2270 => ?_)
              · exact absurd (c2270.symm.trans c2232) (by decide)
              · have hw := cW_neg c2270 hw
                refine ⟨_, rfl, _, _, rfl, rfl, _, rfl, ?_⟩
                refine iteD (fun c2271 => ?_) (fun c2271 => ?_)
                · exact absurd (c2271.symm.trans c2232) (by decide)
                · have hw := cW_neg c2271 hw
                  refine ⟨_, rfl, ?_⟩
                  obtain ⟨G2272, eG2273, k2274, S2275⟩ := Sep.freezeL (L := (a1896 :: L2265)) (O' := []) S2264 ((all_cons (.tail _ (.head _)) (fun b hb => ((all_app ((fun b hb => (.tail _ (.tail _ (List.mem_append_left _ hb)))) : ∀ b ∈ L1898, b ∈ (p2243 :: (a1896 :: (L1898 ++ [])))) (all_cons (.head _) all_nil)) : ∀ b ∈ (L1898 ++ (p2243 :: ([] : List Addr))), b ∈ (p2243 :: (a1896 :: (L1898 ++ [])))) b (hL2266 b hb))) : ∀ b ∈ (a1896 :: L2265), b ∈ (p2243 :: (a1896 :: (L1898 ++ [])))) ((all_cons fr1910 (fun b hb => Sep.h0 S2264 ((fun b hb => ((all_app ((fun b hb => (.tail _ (.tail _ (List.mem_append_left _ hb)))) : ∀ b ∈ L1898, b ∈ (p2243 :: (a1896 :: (L1898 ++ [])))) (all_cons (.head _) all_nil)) : ∀ b ∈ (L1898 ++ (p2243 :: ([] : List Addr))), b ∈ (p2243 :: (a1896 :: (L1898 ++ [])))) b (hL2266 b hb)) b hb) nm_nil)) : ∀ b ∈ (a1896 :: L2265), H b = none) (all_nil)
                  have h2276 := (x2261 _ _ (e2247 _ _ h1908) (nd1902 _ (hs1919 _ List.mem_cons_self)).symm)
                  have hg2277 := k2274 _ List.mem_cons_self _ h2276
                  have d2278 := OwAll.rpH w2268 (encO_L (encO_L encO_I)) eG2273 (fun b hb => k2274 b (List.mem_cons_of_mem _ hb))
                  have hw := cW_ok hw
                  exact hK0 _ hw _ _ _ S2275.b0 S2275.g0 S2275.sG S2275.gn (rp_mk_list hg2277 d2278)
            · have hw := cW_neg c2232 hw
              refine ⟨_, rfl, _, _, rfl, rfl, _, rfl, ?_⟩
              refine iteD (fun c2279 => ?_) (fun c2279 => ?_)
              · have hw := cW_pos c2279 hw
                obtain ⟨g2280, hw⟩ := cW_grd hw
                obtain ⟨v2281, L2282, a2283, w2284, hs2285, up2286, gr2287⟩ := OwAll.partM (k := (row' % ((((itD (v1893) ((plane' % (((v1893) : (List (List (List Int)))).length : Int))))) : (List (List Int))).length : Int))) w1926 g2280
                obtain ⟨b2288, rfl, rfl, h2289⟩ := Ow.toInts w2284
                refine ⟨_, rfl, _, rfl, _, _, _, _, rfl, rfl, (SqL.of h1925), a2283, _, rfl, (by show 1 ≤ sizeLine; decide), fun p2290 n2291 => ?_⟩
                generalize g2292 : upd H1894 p2290 _ = H2293
                obtain ⟨e2294, h2295⟩ := gen_new n2291 g2292
                have h2296 : H2293 p2290 = some (.lst (([sample'] : (List Int)).map V.int)) := h2295
                have fr2297 := S1911.free n2291
                have S2298 := S1911.new n2291 e2294 h2296 fr2297
                obtain ⟨g2299, hw⟩ := cW_grd hw
                have h2300 := (e2294 _ _ h2289)
                refine ⟨_, _, _, _, rfl, rfl, h2300, h2296, (cat_lenM g2299), fun p2301 n2302 => ?_⟩
                generalize g2303 : upd H2293 p2301 _ = H2304
                obtain ⟨e2305, h2306⟩ := gen_new n2302 g2303
                have h2307 : H2304 p2301 = some (.lst ((((itD ((itD (v1893) ((plane' % (((v1893) : (List (List (List Int)))).length : Int))))) ((row' % ((((itD (v1893) ((plane' % (((v1893) : (List (List (List Int)))).length : Int))))) : (List (List Int))).length : Int))))) ++ ([sample']) : (List Int)).map V.int)) := cat_map h2306
                have fr2308 := S2298.free n2302
                have S2309 := S2298.new n2302 e2305 h2307 fr2308
                obtain ⟨g2310, hw⟩ := cW_grd hw
                have w2311 : OwAll G1899 H2304 L1924 (vs1923) (((itD (v1893) ((plane' % (((v1893) : (List (List (List Int)))).length : Int)))) : (List (List Int))).map (oL oI)) := (OwAll.mono (Same.refl _) (keeps_same e2305) (OwAll.mono (Same.refl _) (keeps_same e2294) w1926))
                have h2312 := (e2305 _ _ (e2294 _ _ h1925))
                refine ⟨_, rfl, _, rfl, _, _, _, _, rfl, rfl, h2312, (ixN_len w2311.lenM g2310), ?_⟩
                obtain ⟨L2313, hL2314, w2315⟩ := OwAll.setM w2311 g2310 (Ow.ints h2307) ((all_cons (fun z => (fun b hb => ((there_ne (fun b_ hb_ => (S2298.ow b_ (((fun b hb => (.tail _ (.tail _ (List.mem_append_left _ hb)))) : ∀ b ∈ L1898, b ∈ (p2290 :: (a1896 :: (L1898 ++ [])))) b_ hb_)).2.1) n2302) : ∀ b ∈ L1898, b ≠ p2301) b ((fun c hc => hs1919 c (List.mem_cons_of_mem _ hc)) b hb)) _ z rfl) all_nil) : ∀ b ∈ (p2301 :: ([] : List Addr)), b ∉ L1924)
                generalize g2317 : upd H2304 b1922 _ = H2318
                obtain ⟨x2319, h2320⟩ := gen_mut g2317
                have h2321 : H2318 b1922 = some (.lst ((vs1923).set ((ixN (vs1923).length ((row' % ((((itD (v1893) ((plane' % (((v1893) : (List (List (List Int)))).length : Int))))) : (List (List Int))).length : Int)))).getD 0) (V.ref p2301))) := h2320
                have S2322 := S2309.mut1 x2319 ((((fun b hb => (.tail _ (.tail _ (.tail _ (List.mem_append_left _ hb))))) : ∀ b ∈ L1898, b ∈ (p2301 :: (p2290 :: (a1896 :: (L1898 ++ []))))) : ∀ b ∈ L1898, b ∈ (p2301 :: (p2290 :: (a1896 :: (L1898 ++ []))))) _ (hs1919 _ List.mem_cons_self)) h2321
                have w2316 : OwAll G1899 H2318 L2313 ((vs1923).set ((ixN (vs1923).length ((row' % ((((itD (v1893) ((plane' % (((v1893) : (List (List (List Int)))).length : Int))))) : (List (List Int))).length : Int)))).getD 0) (V.ref p2301)) ((setL ((itD (v1893) ((plane' % (((v1893) : (List (List (List Int)))).length : Int))))) ((row' % ((((itD (v1893) ((plane' % (((v1893) : (List (List (List Int)))).length : Int))))) : (List (List Int))).length : Int))) (((itD ((itD (v1893) ((plane' % (((v1893) : (List (List (List Int)))).length : Int))))) ((row' % ((((itD (v1893) ((plane' % (((v1893) : (List (List (List Int)))).length : Int))))) : (List (List Int))).length : Int))))) ++ ([sample'])) : (List (List Int))).map (oL oI)) := OwAll.mono (Same.refl _) (keeps_mut x2319 ((fun b hb => ((all_app nb1927 (all_cons ((there_ne (fun b_ hb_ => (S2298.ow b_ (((fun b hb => (.tail _ (.tail _ (List.mem_append_left _ hb)))) : ∀ b ∈ L1898, b ∈ (p2290 :: (a1896 :: (L1898 ++ [])))) b_ hb_)).2.1) n2302) _ (hs1919 _ List.mem_cons_self)).symm all_nil)) : ∀ b ∈ (L1924 ++ (p2301 :: ([] : List Addr))), b ≠ b1922) b (hL2314 b hb)) : ∀ b ∈ L2313, b ≠ b1922)) w2315
                obtain ⟨L2323, hL2324, w2325⟩ := gr1921 H2318 _ (p2301 :: ([] : List Addr)) (b1922 :: L2313) (grow_keeps (Same.trans e2294 e2305) x2319 List.mem_cons_self) (grow_sub hL2314) ((all_cons (fun z => (there_ne (fun b_ hb_ => (S2298.ow b_ (((fun b hb => (.tail _ (.tail _ (List.mem_append_left _ hb)))) : ∀ b ∈ L1898, b ∈ (p2290 :: (a1896 :: (L1898 ++ [])))) b_ hb_)).2.1) n2302) _ z rfl) all_nil) : ∀ b ∈ (p2301 :: ([] : List Addr)), b ∉ L1898) (Ow.list h2321 w2316 ((fun b hb => ((all_app nb1927 (all_cons ((there_ne (fun b_ hb_ => (S2298.ow b_ (((fun b hb => (.tail _ (.tail _ (List.mem_append_left _ hb)))) : ∀ b ∈ L1898, b ∈ (p2290 :: (a1896 :: (L1898 ++ [])))) b_ hb_)).2.1) n2302) _ (hs1919 _ List.mem_cons_self)).symm all_nil)) : ∀ b ∈ (L1924 ++ (p2301 :: ([] : List Addr))), b ≠ b1922) b (hL2314 b hb)) : ∀ b ∈ L2313, b ≠ b1922))
                have w2326 : OwAll G1899 H2318 L2323 (vs1897) ((setL (v1893) ((plane' % (((v1893) : (List (List (List Int)))).length : Int))) (setL ((itD (v1893) ((plane' % (((v1893) : (List (List (List Int)))).length : Int))))) ((row' % ((((itD (v1893) ((plane' % (((v1893) : (List (List (List Int)))).length : Int))))) : (List (List Int))).length : Int))) (((itD ((itD (v1893) ((plane' % (((v1893) : (List (List (List Int)))).length : Int))))) ((row' % ((((itD (v1893) ((plane' % (((v1893) : (List (List (List Int)))).length : Int))))) : (List (List Int))).length : Int))))) ++ ([sample']))) : (List (List (List Int)))).map (oL (oL oI))) := w2325
                have hw := cW_bnd hw
                refine ⟨_, rfl, _, _, rfl, rfl, _, rfl, ?_⟩
                refine iteD (fun c2328 => ?_) (fun c2328 => ?_)
                · exact absurd (c2328.symm.trans c2279) (by decide)
                · have hw := cW_neg c2328 hw
                  refine ⟨_, rfl, ?_⟩
                  obtain ⟨G2329, eG2330, k2331, S2332⟩ := Sep.freezeL (L := (a1896 :: L2323)) (O' := [p2290]) S2322 ((all_cons (.tail _ (.tail _ (.head _))) (fun b hb => ((all_app ((fun b hb => (.tail _ (.tail _ (.tail _ (List.mem_append_left _ hb))))) : ∀ b ∈ L1898, b ∈ (p2301 :: (p2290 :: (a1896 :: (L1898 ++ []))))) (all_cons (.head _) all_nil)) : ∀ b ∈ (L1898 ++ (p2301 :: ([] : List Addr))), b ∈ (p2301 :: (p2290 :: (a1896 :: (L1898 ++ []))))) b (hL2324 b hb))) : ∀ b ∈ (a1896 :: L2323), b ∈ (p2301 :: (p2290 :: (a1896 :: (L1898 ++ []))))) ((all_cons fr1910 (fun b hb => Sep.h0 S2322 ((fun b hb => ((all_app ((fun b hb => (.tail _ (.tail _ (.tail _ (List.mem_append_left _ hb))))) : ∀ b ∈ L1898, b ∈ (p2301 :: (p2290 :: (a1896 :: (L1898 ++ []))))) (all_cons (.head _) all_nil)) : ∀ b ∈ (L1898 ++ (p2301 :: ([] : List Addr))), b ∈ (p2301 :: (p2290 :: (a1896 :: (L1898 ++ []))))) b (hL2324 b hb)) b hb) nm_nil)) : ∀ b ∈ (a1896 :: L2323), H b = none) ((all_cons ⟨(.tail _ (.head _)), (nm_cons (ne_of_none h1908 n2291).symm (fun z => (fun b hb => ((all_app (there_ne (fun b_ hb_ => (S1911.ow b_ (((fun b hb => (.tail _ (List.mem_append_left _ hb))) : ∀ b ∈ L1898, b ∈ (a1896 :: (L1898 ++ []))) b_ hb_)).2.1) n2291) (all_cons (ne_of_none h2296 n2302).symm all_nil)) : ∀ b ∈ (L1898 ++ (p2301 :: ([] : List Addr))), b ≠ p2290) b (hL2324 b hb)) _ z rfl))⟩ all_nil))
                  have h2333 := (x2319 _ _ (e2305 _ _ (e2294 _ _ h1908)) (nd1902 _ (hs1919 _ List.mem_cons_self)).symm)
                  have hg2334 := k2331 _ List.mem_cons_self _ h2333
                  have d2335 := OwAll.rpH w2326 (encO_L (encO_L encO_I)) eG2330 (fun b hb => k2331 b (List.mem_cons_of_mem _ hb))
                  have hw := cW_ok hw
                  exact hK0 _ hw _ _ _ S2332.b0 S2332.g0 S2332.sG S2332.gn (rp_mk_list hg2334 d2335)
              · have hw := cW_neg c2279 hw
                refine ⟨_, rfl, _, _, rfl, rfl, _, rfl, ?_⟩
                refine iteD (fun c2336 => ?_) (fun c2336 => ?_)
                · have hw := cW_pos c2336 hw
                  refine ⟨_, rfl, _, _, rfl, rfl, .inl ⟨_, rfl, ?_⟩⟩
                  obtain ⟨g2337, hw⟩ := cW_grd hw
                  refine ⟨_, rfl, _, _, _, rfl, (SqL.of h1925), (by rw [(OwAll.rpA w1926 (encO_L encO_I) S1911.sG).len, List.length_map]), _, _, rfl, rfl, g2337, ?_⟩
                  have hw := cW_bnd hw
                  obtain ⟨g2339, hw⟩ := cW_grd hw
                  obtain ⟨v2340, L2341, a2342, w2343, hs2344, up2345, gr2346⟩ := OwAll.partM (k := (((row' % ((((itD (v1893) ((plane' % (((v1893) : (List (List (List Int)))).length : Int))))) : (List (List Int))).length : Int)) + 1) % ((((itD (v1893) ((plane' % (((v1893) : (List (List (List Int)))).length : Int))))) : (List (List Int))).length : Int))) w1926 g2339
                  obtain ⟨b2347, rfl, rfl, h2348⟩ := Ow.toInts w2343
                  refine ⟨_, rfl, _, rfl, _, _, _, _, rfl, rfl, (SqL.of h1925), a2342, _, rfl, (by show 1 ≤ sizeLine; decide), fun p2349 n2350 => ?_⟩
                  generalize g2351 : upd H1894 p2349 _ = H2352
                  obtain ⟨e2353, h2354⟩ := gen_new n2350 g2351
                  have h2355 : H2352 p2349 = some (.lst (([sample'] : (List Int)).map V.int)) := h2354
                  have fr2356 := S1911.free n2350
                  have S2357 := S1911.new n2350 e2353 h2355 fr2356
                  obtain ⟨g2358, hw⟩ := cW_grd hw
                  have h2359 := (e2353 _ _ h2348)
                  refine ⟨_, _, _, _, rfl, rfl, h2359, h2355, (cat_lenM g2358), fun p2360 n2361 => ?_⟩
                  generalize g2362 : upd H2352 p2360 _ = H2363
                  obtain ⟨e2364, h2365⟩ := gen_new n2361 g2362
                  have h2366 : H2363 p2360 = some (.lst ((((itD ((itD (v1893) ((plane' % (((v1893) : (List (List (List Int)))).length : Int))))) ((((row' % ((((itD (v1893) ((plane' % (((v1893) : (List (List (List Int)))).length : Int))))) : (List (List Int))).length : Int)) + 1) % ((((itD (v1893) ((plane' % (((v1893) : (List (List (List Int)))).length : Int))))) : (List (List Int))).length : Int))))) ++ ([sample']) : (List Int)).map V.int)) := cat_map h2365
                  have fr2367 := S2357.free n2361
                  have S2368 := S2357.new n2361 e2364 h2366 fr2367
                  obtain ⟨g2369, hw⟩ := cW_grd hw
                  have w2370 : OwAll G1899 H2363 L1924 (vs1923) (((itD (v1893) ((plane' % (((v1893) : (List (List (List Int)))).length : Int)))) : (List (List Int))).map (oL oI)) := (OwAll.mono (Same.refl _) (keeps_same e2364) (OwAll.mono (Same.refl _) (keeps_same e2353) w1926))
                  have h2371 := (e2364 _ _ (e2353 _ _ h1925))
                  refine ⟨_, rfl, _, rfl, _, _, _, _, rfl, rfl, h2371, (ixN_len w2370.lenM g2369), ?_⟩
                  obtain ⟨L2372, hL2373, w2374⟩ := OwAll.setM w2370 g2369 (Ow.ints h2366) ((all_cons (fun z => (fun b hb => ((there_ne (fun b_ hb_ => (S2357.ow b_ (((fun b hb => (.tail _ (.tail _ (List.mem_append_left _ hb)))) : ∀ b ∈ L1898, b ∈ (p2349 :: (a1896 :: (L1898 ++ [])))) b_ hb_)).2.1) n2361) : ∀ b ∈ L1898, b ≠ p2360) b ((fun c hc => hs1919 c (List.mem_cons_of_mem _ hc)) b hb)) _ z rfl) all_nil) : ∀ b ∈ (p2360 :: ([] : List Addr)), b ∉ L1924)
                  generalize g2376 : upd H2363 b1922 _ = H2377
                  obtain ⟨x2378, h2379⟩ := gen_mut g2376
                  have h2380 : H2377 b1922 = some (.lst ((vs1923).set ((ixN (vs1923).length ((((row' % ((((itD (v1893) ((plane' % (((v1893) : (List (List (List Int)))).length : Int))))) : (List (List Int))).length : Int)) + 1) % ((((itD (v1893) ((plane' % (((v1893) : (List (List (List Int)))).length : Int))))) : (List (List Int))).length : Int)))).getD 0) (V.ref p2360))) := h2379
                  have S2381 := S2368.mut1 x2378 ((((fun b hb => (.tail _ (.tail _ (.tail _ (List.mem_append_left _ hb))))) : ∀ b ∈ L1898, b ∈ (p2360 :: (p2349 :: (a1896 :: (L1898 ++ []))))) : ∀ b ∈ L1898, b ∈ (p2360 :: (p2349 :: (a1896 :: (L1898 ++ []))))) _ (hs1919 _ List.mem_cons_self)) h2380
                  have w2375 : OwAll G1899 H2377 L2372 ((vs1923).set ((ixN (vs1923).length ((((row' % ((((itD (v1893) ((plane' % (((v1893) : (List (List (List Int)))).length : Int))))) : (List (List Int))).length : Int)) + 1) % ((((itD (v1893) ((plane' % (((v1893) : (List (List (List Int)))).length : Int))))) : (List (List Int))).length : Int)))).getD 0) (V.ref p2360)) ((setL ((itD (v1893) ((plane' % (((v1893) : (List (List (List Int)))).length : Int))))) ((((row' % ((((itD (v1893) ((plane' % (((v1893) : (List (List (List Int)))).length : Int))))) : (List (List Int))).length : Int)) + 1) % ((((itD (v1893) ((plane' % (((v1893) : (List (List (List Int)))).length : Int))))) : (List (List Int))).length : Int))) (((itD ((itD (v1893) ((plane' % (((v1893) : (List (List (List Int)))).length : Int))))) ((((row' % ((((itD (v1893) ((plane' % (((v1893) : (List (List (List Int)))).length : Int))))) : (List (List Int))).length : Int)) + 1) % ((((itD (v1893) ((plane' % (((v1893) : (List (List (List Int)))).length : Int))))) : (List (List Int))).length : Int))))) ++ ([sample'])) : (List (List Int))).map (oL oI)) := OwAll.mono (Same.refl _) (keeps_mut x2378 ((fun b hb => ((all_app nb1927 (all_cons ((there_ne (fun b_ hb_ => (S2357.ow b_ (((fun b hb => (.tail _ (.tail _ (List.mem_append_left _ hb)))) : ∀ b ∈ L1898, b ∈ (p2349 :: (a1896 :: (L1898 ++ [])))) b_ hb_)).2.1) n2361) _ (hs1919 _ List.mem_cons_self)).symm all_nil)) : ∀ b ∈ (L1924 ++ (p2360 :: ([] : List Addr))), b ≠ b1922) b (hL2373 b hb)) : ∀ b ∈ L2372, b ≠ b1922)) w2374
                  obtain ⟨L2382, hL2383, w2384⟩ := gr1921 H2377 _ (p2360 :: ([] : List Addr)) (b1922 :: L2372) (grow_keeps (Same.trans e2353 e2364) x2378 List.mem_cons_self) (grow_sub hL2373) ((all_cons (fun z => (there_ne (fun b_ hb_ => (S2357.ow b_ (((fun b hb => (.tail _ (.tail _ (List.mem_append_left _ hb)))) : ∀ b ∈ L1898, b ∈ (p2349 :: (a1896 :: (L1898 ++ [])))) b_ hb_)).2.1) n2361) _ z rfl) all_nil) : ∀ b ∈ (p2360 :: ([] : List Addr)), b ∉ L1898) (Ow.list h2380 w2375 ((fun b hb => ((all_app nb1927 (all_cons ((there_ne (fun b_ hb_ => (S2357.ow b_ (((fun b hb => (.tail _ (.tail _ (List.mem_append_left _ hb)))) : ∀ b ∈ L1898, b ∈ (p2349 :: (a1896 :: (L1898 ++ [])))) b_ hb_)).2.1) n2361) _ (hs1919 _ List.mem_cons_self)).symm all_nil)) : ∀ b ∈ (L1924 ++ (p2360 :: ([] : List Addr))), b ≠ b1922) b (hL2373 b hb)) : ∀ b ∈ L2372, b ≠ b1922))
                  have w2385 : OwAll G1899 H2377 L2382 (vs1897) ((setL (v1893) ((plane' % (((v1893) : (List (List (List Int)))).length : Int))) (setL ((itD (v1893) ((plane' % (((v1893) : (List (List (List Int)))).length : Int))))) ((((row' % ((((itD (v1893) ((plane' % (((v1893) : (List (List (List Int)))).length : Int))))) : (List (List Int))).length : Int)) + 1) % ((((itD (v1893) ((plane' % (((v1893) : (List (List (List Int)))).length : Int))))) : (List (List Int))).length : Int))) (((itD ((itD (v1893) ((plane' % (((v1893) : (List (List (List Int)))).length : Int))))) ((((row' % ((((itD (v1893) ((plane' % (((v1893) : (List (List (List Int)))).length : Int))))) : (List (List Int))).length : Int)) + 1) % ((((itD (v1893) ((plane' % (((v1893) : (List (List (List Int)))).length : Int))))) : (List (List Int))).length : Int))))) ++ ([sample']))) : (List (List (List Int)))).map (oL (oL oI))) := w2384
                  have hw := cW_bnd hw
                  obtain ⟨v2387, L2388, a2389, w2390, hs2391, up2392, gr2393⟩ := OwAll.partM (k := (plane' % (((v1893) : (List (List (List Int)))).length : Int))) w2385 (setL_g g1914)
                  obtain rfl := atI_same a2389 a1917
                  obtain ⟨vs2394, L2395, rfl, h2396, w2397, nb2398⟩ := Ow.atList w2390
                  obtain ⟨g2399, hw⟩ := cW_grd hw
                  obtain ⟨v2400, L2401, a2402, w2403, hs2404, up2405, gr2406⟩ := OwAll.partM (k := (row' % ((((itD (v1893) ((plane' % (((v1893) : (List (List (List Int)))).length : Int))))) : (List (List Int))).length : Int))) w2397 g2399
                  obtain ⟨b2407, rfl, rfl, h2408⟩ := Ow.toInts w2403
                  refine ⟨_, rfl, _, rfl, _, _, _, _, rfl, rfl, (SqL.of h2396), a2402, _, rfl, _, _, rfl, (SqL.of h2408), fun p2409 n2410 => ?_⟩
                  generalize g2411 : upd H2377 p2409 _ = H2412
                  obtain ⟨e2413, h2414⟩ := gen_new n2410 g2411
                  have h2415 : H2412 p2409 = some (.lst ((cutL ((itD ((itD (setL (v1893) ((plane' % (((v1893) : (List (List (List Int)))).length : Int))) (setL ((itD (v1893) ((plane' % (((v1893) : (List (List (List Int)))).length : Int))))) ((((row' % ((((itD (v1893) ((plane' % (((v1893) : (List (List (List Int)))).length : Int))))) : (List (List Int))).length : Int)) + 1) % ((((itD (v1893) ((plane' % (((v1893) : (List (List (List Int)))).length : Int))))) : (List (List Int))).length : Int))) (((itD ((itD (v1893) ((plane' % (((v1893) : (List (List (List Int)))).length : Int))))) ((((row' % ((((itD (v1893) ((plane' % (((v1893) : (List (List (List Int)))).length : Int))))) : (List (List Int))).length : Int)) + 1) % ((((itD (v1893) ((plane' % (((v1893) : (List (List (List Int)))).length : Int))))) : (List (List Int))).length : Int))))) ++ ([sample'])))) ((plane' % (((v1893) : (List (List (List Int)))).length : Int))))) ((row' % ((((itD (v1893) ((plane' % (((v1893) : (List (List (List Int)))).length : Int))))) : (List (List Int))).length : Int))))) (some (1)) none : (List Int)).map V.int)) := cut_map h2414
                  have fr2416 := S2381.free n2410
                  have S2417 := S2381.new n2410 e2413 h2415 fr2416
                  obtain ⟨g2418, hw⟩ := cW_grd hw
                  have w2419 : OwAll G1899 H2412 L2395 (vs2394) (((itD (setL (v1893) ((plane' % (((v1893) : (List (List (List Int)))).length : Int))) (setL ((itD (v1893) ((plane' % (((v1893) : (List (List (List Int)))).length : Int))))) ((((row' % ((((itD (v1893) ((plane' % (((v1893) : (List (List (List Int)))).length : Int))))) : (List (List Int))).length : Int)) + 1) % ((((itD (v1893) ((plane' % (((v1893) : (List (List (List Int)))).length : Int))))) : (List (List Int))).length : Int))) (((itD ((itD (v1893) ((plane' % (((v1893) : (List (List (List Int)))).length : Int))))) ((((row' % ((((itD (v1893) ((plane' % (((v1893) : (List (List (List Int)))).length : Int))))) : (List (List Int))).length : Int)) + 1) % ((((itD (v1893) ((plane' % (((v1893) : (List (List (List Int)))).length : Int))))) : (List (List Int))).length : Int))))) ++ ([sample'])))) ((plane' % (((v1893) : (List (List (List Int)))).length : Int)))) : (List (List Int))).map (oL oI)) := (OwAll.mono (Same.refl _) (keeps_same e2413) w2397)
                  have h2420 := (e2413 _ _ h2396)
                  refine ⟨_, rfl, _, rfl, _, _, _, _, rfl, rfl, h2420, (ixN_len w2419.lenM g2418), ?_⟩
                  obtain ⟨L2421, hL2422, w2423⟩ := OwAll.setM w2419 g2418 (Ow.ints h2415) ((all_cons (fun z => (fun b hb => ((fun b hb => ((all_app (there_ne (fun b_ hb_ => (S2381.ow b_ (((fun b hb => (.tail _ (.tail _ (.tail _ (List.mem_append_left _ hb))))) : ∀ b ∈ L1898, b ∈ (p2360 :: (p2349 :: (a1896 :: (L1898 ++ []))))) b_ hb_)).2.1) n2410) (all_cons (ne_of_none (x2378 _ _ h2366 ((there_ne (fun b_ hb_ => (S2357.ow b_ (((fun b hb => (.tail _ (.tail _ (List.mem_append_left _ hb)))) : ∀ b ∈ L1898, b ∈ (p2349 :: (a1896 :: (L1898 ++ [])))) b_ hb_)).2.1) n2361) _ (hs1919 _ List.mem_cons_self)).symm) n2410) all_nil)) : ∀ b ∈ (L1898 ++ (p2360 :: ([] : List Addr))), b ≠ p2409) b (hL2383 b hb)) : ∀ b ∈ L2382, b ≠ p2409) b ((fun c hc => hs2391 c (List.mem_cons_of_mem _ hc)) b hb)) _ z rfl) all_nil) : ∀ b ∈ (p2409 :: ([] : List Addr)), b ∉ L2395)
                  generalize g2425 : upd H2412 b1922 _ = H2426
                  obtain ⟨x2427, h2428⟩ := gen_mut g2425
                  have h2429 : H2426 b1922 = some (.lst ((vs2394).set ((ixN (vs2394).length ((row' % ((((itD (v1893) ((plane' % (((v1893) : (List (List (List Int)))).length : Int))))) : (List (List Int))).length : Int)))).getD 0) (V.ref p2409))) := h2428
                  have S2430 := S2417.mut1 x2427 ((((fun b hb => (.tail _ (.tail _ (.tail _ (.tail _ (List.mem_append_left _ hb)))))) : ∀ b ∈ L1898, b ∈ (p2409 :: (p2360 :: (p2349 :: (a1896 :: (L1898 ++ [])))))) : ∀ b ∈ L1898, b ∈ (p2409 :: (p2360 :: (p2349 :: (a1896 :: (L1898 ++ [])))))) _ (hs1919 _ List.mem_cons_self)) h2429
                  have w2424 : OwAll G1899 H2426 L2421 ((vs2394).set ((ixN (vs2394).length ((row' % ((((itD (v1893) ((plane' % (((v1893) : (List (List (List Int)))).length : Int))))) : (List (List Int))).length : Int)))).getD 0) (V.ref p2409)) ((setL ((itD (setL (v1893) ((plane' % (((v1893) : (List (List (List Int)))).length : Int))) (setL ((itD (v1893) ((plane' % (((v1893) : (List (List (List Int)))).length : Int))))) ((((row' % ((((itD (v1893) ((plane' % (((v1893) : (List (List (List Int)))).length : Int))))) : (List (List Int))).length : Int)) + 1) % ((((itD (v1893) ((plane' % (((v1893) : (List (List (List Int)))).length : Int))))) : (List (List Int))).length : Int))) (((itD ((itD (v1893) ((plane' % (((v1893) : (List (List (List Int)))).length : Int))))) ((((row' % ((((itD (v1893) ((plane' % (((v1893) : (List (List (List Int)))).length : Int))))) : (List (List Int))).length : Int)) + 1) % ((((itD (v1893) ((plane' % (((v1893) : (List (List (List Int)))).length : Int))))) : (List (List Int))).length : Int))))) ++ ([sample'])))) ((plane' % (((v1893) : (List (List (List Int)))).length : Int))))) ((row' % ((((itD (v1893) ((plane' % (((v1893) : (List (List (List Int)))).length : Int))))) : (List (List Int))).length : Int))) (cutL ((itD ((itD (setL (v1893) ((plane' % (((v1893) : (List (List (List Int)))).length : Int))) (setL ((itD (v1893) ((plane' % (((v1893) : (List (List (List Int)))).length : Int))))) ((((row' % ((((itD (v1893) ((plane' % (((v1893) : (List (List (List Int)))).length : Int))))) : (List (List Int))).length : Int)) + 1) % ((((itD (v1893) ((plane' % (((v1893) : (List (List (List Int)))).length : Int))))) : (List (List Int))).length : Int))) (((itD ((itD (v1893) ((plane' % (((v1893) : (List (List (List Int)))).length : Int))))) ((((row' % ((((itD (v1893) ((plane' % (((v1893) : (List (List (List Int)))).length : Int))))) : (List (List Int))).length : Int)) + 1) % ((((itD (v1893) ((plane' % (((v1893) : (List (List (List Int)))).length : Int))))) : (List (List Int))).length : Int))))) ++ ([sample'])))) ((plane' % (((v1893) : (List (List (List Int)))).length : Int))))) ((row' % ((((itD (v1893) ((plane' % (((v1893) : (List (List (List Int)))).length : Int))))) : (List (List Int))).length : Int))))) (some (1)) none) : (List (List Int))).map (oL oI)) := OwAll.mono (Same.refl _) (keeps_mut x2427 ((fun b hb => ((all_app nb2398 (all_cons ((there_ne (fun b_ hb_ => (S2381.ow b_ (((fun b hb => (.tail _ (.tail _ (.tail _ (List.mem_append_left _ hb))))) : ∀ b ∈ L1898, b ∈ (p2360 :: (p2349 :: (a1896 :: (L1898 ++ []))))) b_ hb_)).2.1) n2410) _ (hs1919 _ List.mem_cons_self)).symm all_nil)) : ∀ b ∈ (L2395 ++ (p2409 :: ([] : List Addr))), b ≠ b1922) b (hL2422 b hb)) : ∀ b ∈ L2421, b ≠ b1922)) w2423
                  obtain ⟨L2431, hL2432, w2433⟩ := gr2393 H2426 _ (p2409 :: ([] : List Addr)) (b1922 :: L2421) (grow_keeps e2413 x2427 List.mem_cons_self) (grow_sub hL2422) ((all_cons (fun z => (fun b hb => ((all_app (there_ne (fun b_ hb_ => (S2381.ow b_ (((fun b hb => (.tail _ (.tail _ (.tail _ (List.mem_append_left _ hb))))) : ∀ b ∈ L1898, b ∈ (p2360 :: (p2349 :: (a1896 :: (L1898 ++ []))))) b_ hb_)).2.1) n2410) (all_cons (ne_of_none (x2378 _ _ h2366 ((there_ne (fun b_ hb_ => (S2357.ow b_ (((fun b hb => (.tail _ (.tail _ (List.mem_append_left _ hb)))) : ∀ b ∈ L1898, b ∈ (p2349 :: (a1896 :: (L1898 ++ [])))) b_ hb_)).2.1) n2361) _ (hs1919 _ List.mem_cons_self)).symm) n2410) all_nil)) : ∀ b ∈ (L1898 ++ (p2360 :: ([] : List Addr))), b ≠ p2409) b (hL2383 b hb)) _ z rfl) all_nil) : ∀ b ∈ (p2409 :: ([] : List Addr)), b ∉ L2382) (Ow.list h2429 w2424 ((fun b hb => ((all_app nb2398 (all_cons ((there_ne (fun b_ hb_ => (S2381.ow b_ (((fun b hb => (.tail _ (.tail _ (.tail _ (List.mem_append_left _ hb))))) : ∀ b ∈ L1898, b ∈ (p2360 :: (p2349 :: (a1896 :: (L1898 ++ []))))) b_ hb_)).2.1) n2410) _ (hs1919 _ List.mem_cons_self)).symm all_nil)) : ∀ b ∈ (L2395 ++ (p2409 :: ([] : List Addr))), b ≠ b1922) b (hL2422 b hb)) : ∀ b ∈ L2421, b ≠ b1922))
                  have w2434 : OwAll G1899 H2426 L2431 (vs1897) ((setL (setL (v1893) ((plane' % (((v1893) : (List (List (List Int)))).length : Int))) (setL ((itD (v1893) ((plane' % (((v1893) : (List (List (List Int)))).length : Int))))) ((((row' % ((((itD (v1893) ((plane' % (((v1893) : (List (List (List Int)))).length : Int))))) : (List (List Int))).length : Int)) + 1) % ((((itD (v1893) ((plane' % (((v1893) : (List (List (List Int)))).length : Int))))) : (List (List Int))).length : Int))) (((itD ((itD (v1893) ((plane' % (((v1893) : (List (List (List Int)))).length : Int))))) ((((row' % ((((itD (v1893) ((plane' % (((v1893) : (List (List (List Int)))).length : Int))))) : (List (List Int))).length : Int)) + 1) % ((((itD (v1893) ((plane' % (((v1893) : (List (List (List Int)))).length : Int))))) : (List (List Int))).length : Int))))) ++ ([sample'])))) ((plane' % (((v1893) : (List (List (List Int)))).length : Int))) (setL ((itD (setL (v1893) ((plane' % (((v1893) : (List (List (List Int)))).length : Int))) (setL ((itD (v1893) ((plane' % (((v1893) : (List (List (List Int)))).length : Int))))) ((((row' % ((((itD (v1893) ((plane' % (((v1893) : (List (List (List Int)))).length : Int))))) : (List (List Int))).length : Int)) + 1) % ((((itD (v1893) ((plane' % (((v1893) : (List (List (List Int)))).length : Int))))) : (List (List Int))).length : Int))) (((itD ((itD (v1893) ((plane' % (((v1893) : (List (List (List Int)))).length : Int))))) ((((row' % ((((itD (v1893) ((plane' % (((v1893) : (List (List (List Int)))).length : Int))))) : (List (List Int))).length : Int)) + 1) % ((((itD (v1893) ((plane' % (((v1893) : (List (List (List Int)))).length : Int))))) : (List (List Int))).length : Int))))) ++ ([sample'])))) ((plane' % (((v1893) : (List (List (List Int)))).length : Int))))) ((row' % ((((itD (v1893) ((plane' % (((v1893) : (List (List (List Int)))).length : Int))))) : (List (List Int))).length : Int))) (cutL ((itD ((itD (setL (v1893) ((plane' % (((v1893) : (List (List (List Int)))).length : Int))) (setL ((itD (v1893) ((plane' % (((v1893) : (List (List (List Int)))).length : Int))))) ((((row' % ((((itD (v1893) ((plane' % (((v1893) : (List (List (List Int)))).length : Int))))) : (List (List Int))).length : Int)) + 1) % ((((itD (v1893) ((plane' % (((v1893) : (List (List (List Int)))).length : Int))))) : (List (List Int))).length : Int))) (((itD ((itD (v1893) ((plane' % (((v1893) : (List (List (List Int)))).length : Int))))) ((((row' % ((((itD (v1893) ((plane' % (((v1893) : (List (List (List Int)))).length : Int))))) : (List (List Int))).length : Int)) + 1) % ((((itD (v1893) ((plane' % (((v1893) : (List (List (List Int)))).length : Int))))) : (List (List Int))).length : Int))))) ++ ([sample'])))) ((plane' % (((v1893) : (List (List (List Int)))).length : Int))))) ((row' % ((((itD (v1893) ((plane' % (((v1893) : (List (List (List Int)))).length : Int))))) : (List (List Int))).length : Int))))) (some (1)) none)) : (List (List (List Int)))).map (oL (oL oI))) := w2433
                  have hw := cW_bnd hw
                  refine ⟨_, rfl, ?_⟩
                  obtain ⟨G2436, eG2437, k2438, S2439⟩ := Sep.freezeL (L := (a1896 :: L2431)) (O' := [p2349]) S2430 ((all_cons (.tail _ (.tail _ (.tail _ (.head _)))) (fun b hb => ((all_app (fun b hb => ((all_app ((fun b hb => (.tail _ (.tail _ (.tail _ (.tail _ (List.mem_append_left _ hb)))))) : ∀ b ∈ L1898, b ∈ (p2409 :: (p2360 :: (p2349 :: (a1896 :: (L1898 ++ [])))))) (all_cons (.tail _ (.head _)) all_nil)) : ∀ b ∈ (L1898 ++ (p2360 :: ([] : List Addr))), b ∈ (p2409 :: (p2360 :: (p2349 :: (a1896 :: (L1898 ++ [])))))) b (hL2383 b hb)) (all_cons (.head _) all_nil)) : ∀ b ∈ (L2382 ++ (p2409 :: ([] : List Addr))), b ∈ (p2409 :: (p2360 :: (p2349 :: (a1896 :: (L1898 ++ [])))))) b (hL2432 b hb))) : ∀ b ∈ (a1896 :: L2431), b ∈ (p2409 :: (p2360 :: (p2349 :: (a1896 :: (L1898 ++ [])))))) ((all_cons fr1910 (fun b hb => Sep.h0 S2430 ((fun b hb => ((all_app (fun b hb => ((all_app ((fun b hb => (.tail _ (.tail _ (.tail _ (.tail _ (List.mem_append_left _ hb)))))) : ∀ b ∈ L1898, b ∈ (p2409 :: (p2360 :: (p2349 :: (a1896 :: (L1898 ++ [])))))) (all_cons (.tail _ (.head _)) all_nil)) : ∀ b ∈ (L1898 ++ (p2360 :: ([] : List Addr))), b ∈ (p2409 :: (p2360 :: (p2349 :: (a1896 :: (L1898 ++ [])))))) b (hL2383 b hb)) (all_cons (.head _) all_nil)) : ∀ b ∈ (L2382 ++ (p2409 :: ([] : List Addr))), b ∈ (p2409 :: (p2360 :: (p2349 :: (a1896 :: (L1898 ++ [])))))) b (hL2432 b hb)) b hb) nm_nil)) : ∀ b ∈ (a1896 :: L2431), H b = none) ((all_cons ⟨(.tail _ (.tail _ (.head _))), (nm_cons (ne_of_none h1908 n2350).symm (fun z => (fun b hb => ((all_app (fun b hb => ((all_app (there_ne (fun b_ hb_ => (S1911.ow b_ (((fun b hb => (.tail _ (List.mem_append_left _ hb))) : ∀ b ∈ L1898, b ∈ (a1896 :: (L1898 ++ []))) b_ hb_)).2.1) n2350) (all_cons (ne_of_none h2355 n2361).symm all_nil)) : ∀ b ∈ (L1898 ++ (p2360 :: ([] : List Addr))), b ≠ p2349) b (hL2383 b hb)) (all_cons (ne_of_none (x2378 _ _ (e2364 _ _ h2355) ((there_ne (fun b_ hb_ => (S1911.ow b_ (((fun b hb => (.tail _ (List.mem_append_left _ hb))) : ∀ b ∈ L1898, b ∈ (a1896 :: (L1898 ++ []))) b_ hb_)).2.1) n2350) _ (hs1919 _ List.mem_cons_self)).symm) n2410).symm all_nil)) : ∀ b ∈ (L2382 ++ (p2409 :: ([] : List Addr))), b ≠ p2349) b (hL2432 b hb)) _ z rfl))⟩ all_nil))
                  have h2440 := (x2427 _ _ (e2413 _ _ (x2378 _ _ (e2364 _ _ (e2353 _ _ h1908)) (nd1902 _ (hs1919 _ List.mem_cons_self)).symm)) (nd1902 _ (hs1919 _ List.mem_cons_self)).symm)
                  have hg2441 := k2438 _ List.mem_cons_self _ h2440
                  have d2442 := OwAll.rpH w2434 (encO_L (encO_L encO_I)) eG2437 (fun b hb => k2438 b (List.mem_cons_of_mem _ hb))
                  have hw := cW_ok hw
                  exact hK0 _ hw _ _ _ S2439.b0 S2439.g0 S2439.sG S2439.gn (rp_mk_list hg2441 d2442)
                · have hw := cW_neg c2336 hw
                  refine ⟨_, rfl, ?_⟩
                  obtain ⟨G2443, eG2444, k2445, S2446⟩ := Sep.freezeL (L := (a1896 :: L1898)) (O' := []) S1911 ((all_cons (.head _) ((fun b hb => (.tail _ (List.mem_append_left _ hb))) : ∀ b ∈ L1898, b ∈ (a1896 :: (L1898 ++ [])))) : ∀ b ∈ (a1896 :: L1898), b ∈ (a1896 :: (L1898 ++ []))) ((all_cons fr1910 (fun b hb => Sep.h0 S1911 (((fun b hb => (.tail _ (List.mem_append_left _ hb))) : ∀ b ∈ L1898, b ∈ (a1896 :: (L1898 ++ []))) b hb) nm_nil)) : ∀ b ∈ (a1896 :: L1898), H b = none) (all_nil)
                  have hg2447 := k2445 _ List.mem_cons_self _ h1908
                  have d2448 := OwAll.rpH w1909 (encO_L (encO_L encO_I)) eG2444 (fun b hb => k2445 b (List.mem_cons_of_mem _ hb))
                  have hw := cW_ok hw
                  exact hK0 _ hw _ _ _ S2446.b0 S2446.g0 S2446.sG S2446.gn (rp_mk_list hg2447 d2448)

abbrev N__law_up : List Str := ["n"]
theorem sc__law_up : FnScope N__law_up ["n"] (defScope s__law_up) := ⟨rfl, rfl, rfl, by decide +kernel, rfl, by decide +kernel, by decide +kernel⟩
theorem ok__law_up (D : DefX K mg "_law_up" s__law_up ["n"] pats__law_up) (T : Txt w K mg AD)  : CalX P w K mg base 1 "_law_up" (sp__law_up K AD) pats__law_up := by
  refine D.ok sc__law_up (fun vs H Q E h => ?_) (fun f cdv A_ outer s H vs Q E hr h => ?_)
  · obtain ⟨G, n', rfl, _⟩ := h
    rfl
  · obtain ⟨G, n', rfl, sG, hw⟩ := h
    refine ⟨_, (pss_one (ps_ret (pe_op op_mul (pe_op op_fdivW (pe_op op_add (pv 0) pe_int) pe_int) pe_int))), ?_⟩
    obtain ⟨KK, EE, hK0, hE, hw⟩ := cW_gen hw
    have S0 := Sep.startG sG
    unfold F__law_up at hw
    refine ⟨_, rfl, _, _, rfl, rfl, _, _, rfl, rfl, (divW_lit (by decide) (by decide)), _, _, rfl, rfl, (.inr ⟨by decide, by decide⟩), ?_⟩
    have hw := cW_ok hw
    exact hK0 _ hw

abbrev N_law : List Str := ["script", "draws", "width", "height", "fmt", "top", "count", "sizes", "coded", "frame", "other", "due", "kept", "actual", "cropped", "spoilt", "longer", "k", "y", "before", "cut", "again", "plane", "row"]
theorem sc_law : FnScope N_law ["script"] (defScope s_law) := ⟨rfl, rfl, rfl, by decide +kernel, rfl, by decide +kernel, by decide +kernel⟩
theorem ok_law {f : Addr} {fd : FuncData} (F : FunD K "law" "law" (defArgs s_law) (defBody s_law) (defScope s_law) [] [] f fd) (T : Txt w K mg AD) (c__law_draws : CalX P w K mg base 1 "_law_draws" (sp__law_draws K AD) pats__law_draws) (c__law_cell : CalX P w K mg base 1 "_law_cell" (sp__law_cell K AD) pats__law_cell) (c_Format___init__ : MakX P w K mg base 1 "Format" AD.c_Format (sp_Format___init__ K AD) pats_Format___init__) (c__law_size : CalX P w K mg base 1 "_law_size" (sp__law_size K AD) pats__law_size) (c__law_up : CalX P w K mg base 1 "_law_up" (sp__law_up K AD) pats__law_up) (c__law_plane : CalX P w K mg base 2 "_law_plane" (sp__law_plane K AD) pats__law_plane) (c__law_padded : CalX P w K mg base 1 "_law_padded" (sp__law_padded K AD) pats__law_padded) (c__law_copy : CalX P w K mg base 1 "_law_copy" (sp__law_copy K AD) pats__law_copy) (c_pad_frame : CalX P w K mg base 7 "pad_frame" (sp_pad_frame K AD) pats_pad_frame) (c_crop_planes : CalX P w K mg base 6 "crop_planes" (sp_crop_planes K AD) pats_crop_planes) (c__law_refused : CalX P w K mg base 7 "_law_refused" (sp__law_refused K AD) pats__law_refused) (c__law_spoilt : CalX P w K mg base 2 "_law_spoilt" (sp__law_spoilt K AD) pats__law_spoilt) : FnG P w K mg base CX0 8 f fd ["script"] (sp_law K AD) := by
  refine FnG.bodyN F sc_law (fun vs H Q E h => ?_) (fun cdv A_ outer s H vs Q E hr h => ?_)
  · obtain ⟨a_script, script, rfl, _⟩ := h
    rfl
  · obtain ⟨a_script, script', rfl, q_script, hw, k⟩ := h
    refine ⟨_, (pss_cons (ps_set (i := 1) sc_law.nd rfl (Or.inr rfl) (vx_callX c__law_draws pat__law_draws_0 (.head _) hr (by decide) takes0 rfl (pa_cons (vx_callX c__law_cell pat__law_cell_0 (.head _) hr (by decide) takes0 rfl (pa_cons (pv 0) (pa_cons pe_int pa_nil)) pk_nil) (pa_cons (pe_lst (pa_cons pe_int (pa_cons pe_int (pa_cons pe_int (pa_cons pe_int (pa_cons pe_int (pa_cons pe_int (pa_cons pe_int (pa_cons pe_int pa_nil))))))))) pa_nil)) pk_nil))
      (pss_cons (ps_set (i := 2) sc_law.nd rfl (Or.inr rfl) (pe_op op_add pe_int (pe_ix (ix_listK (K := K)) (pv 1) pe_int (fun _ _ => rfl))))
      (pss_cons (ps_set (i := 3) sc_law.nd rfl (Or.inr rfl) (pe_op op_add pe_int (pe_ix (ix_listK (K := K)) (pv 1) pe_int (fun _ _ => rfl))))
      (pss_cons (ps_set (i := 4) sc_law.nd rfl (Or.inl rfl) (vx_makeX c_Format___init__ pat_Format___init___0 (.head _) hr (by decide) takes0 rfl (pa_cons (pv 2) (pa_cons (pv 3) pa_nil)) (pk_cons (pe_op op_add pe_int (pe_ix (ix_listK (K := K)) (pv 1) pe_int (fun _ _ => rfl))) (pk_cons (pe_ix (ix_listK (K := K)) (pv 1) pe_int (fun _ _ => rfl)) pk_nil))))
      (C8.pss_cut (ps_set (i := 5) sc_law.nd rfl (Or.inr rfl) (pe_op op_sub (pe_op op_shlW pe_int (pe_op op_add pe_int (pe_ix (ix_listK (K := K)) (pv 1) pe_int (fun _ _ => rfl)))) pe_int))
      (pss_cons (ps_set (i := 6) sc_law.nd rfl (Or.inl rfl) pe_int)
      (C8.pss_cut (ps_if (pt_cmp (pc_gt (pe_ix (ix_listK (K := K)) (pv 1) pe_int (fun _ _ => rfl)) pe_int)) (pss_one (ps_set (i := 6) sc_law.nd rfl (Or.inl rfl) pe_int)) pss_nil)
      (pss_cons (ps_set (i := 7) sc_law.nd rfl (Or.inr rfl) (pe_lc (own := [("plane", 22)]) (g := gName 22) (by rfl) sc_law.nd (pi_range1 rfl T.b_range (pa_cons (pv 6) pa_nil)) (blkOk_by (own := [("plane", 22)]) (N := N_law) (sc := defScope s_law) (by decide +kernel)) (fun _ _ _ _ _ => (pg_name (i := 22) sc_law.nd rfl (Or.inl rfl))) (fun _ _ _ _ _ => pts_nil) (fun _ _ _ _ _ => (vx_callX c__law_size pat__law_size_0 (.head _) hr (by decide) takes0 rfl (pa_cons (pv 2) (pa_cons (pv 3) (pa_cons (pe_ix (ix_listK (K := K)) (pv 1) pe_int (fun _ _ => rfl)) (pa_cons (pv 22) pa_nil)))) pk_nil))))
      (pss_cons (ps_set (i := 8) sc_law.nd rfl (Or.inr rfl) (pe_lc (own := [("plane", 22)]) (g := gName 22) (by rfl) sc_law.nd (pi_range1 rfl T.b_range (pa_cons (pv 6) pa_nil)) (blkOk_by (own := [("plane", 22)]) (N := N_law) (sc := defScope s_law) (by decide +kernel)) (fun _ _ _ _ _ => (pg_name (i := 22) sc_law.nd rfl (Or.inl rfl))) (fun _ _ _ _ _ => pts_nil) (fun _ _ _ _ _ => (vx_callX c__law_size pat__law_size_0 (.head _) hr (by decide) takes0 rfl (pa_cons (vx_callX c__law_up pat__law_up_0 (.head _) hr (by decide) takes0 rfl (pa_cons (pv 2) pa_nil) pk_nil) (pa_cons (vx_callX c__law_up pat__law_up_0 (.head _) hr (by decide) takes0 rfl (pa_cons (pv 3) pa_nil) pk_nil) (pa_cons (pe_ix (ix_listK (K := K)) (pv 1) pe_int (fun _ _ => rfl)) (pa_cons (pv 22) pa_nil)))) pk_nil))))
      (C8.pss_cut (ps_set (i := 9) sc_law.nd rfl (Or.inr rfl) (pe_lc (own := [("k", 17)]) (g := gName 17) (by rfl) sc_law.nd (pi_range1 rfl T.b_range (pa_cons (pv 6) pa_nil)) (blkOk_by (own := [("k", 17)]) (N := N_law) (sc := defScope s_law) (by decide +kernel)) (fun _ _ _ _ _ => (pg_name (i := 17) sc_law.nd rfl (Or.inl rfl))) (fun _ _ _ _ _ => pts_nil) (fun _ _ _ _ _ => (vx_callX c__law_plane pat__law_plane_0 (.head _) hr (by decide) takes0 rfl (pa_cons (vx_callX c__law_cell pat__law_cell_0 (.head _) hr (by decide) takes0 rfl (pa_cons (pv 0) (pa_cons (pe_op op_add pe_int (pv 17)) pa_nil)) pk_nil) (pa_cons (pe_ix (ix_tupK (K := K)) (pe_ix (ix_listK (K := K)) (pv 7) (pv 17) (fun _ _ => rfl)) pe_int (fun _ _ => rfl)) (pa_cons (pe_ix (ix_tupK (K := K)) (pe_ix (ix_listK (K := K)) (pv 7) (pv 17) (fun _ _ => rfl)) pe_int (fun _ _ => rfl)) (pa_cons (pv 5) pa_nil)))) pk_nil))))
      (pss_cons (ps_setLc (i := 10) (y := "other") rfl sc_law.nd rfl rfl (sw_true rfl rfl rfl (by decide +kernel)) (own := [("k", 17)]) (g := gName 17) (pi_range1 rfl T.b_range (pa_cons (pv 6) pa_nil)) (blkOk_by (own := [("k", 17)]) (N := N_law) (sc := defScope s_law) (by decide +kernel)) (fun _ _ _ _ _ => (pg_name (i := 17) sc_law.nd rfl (Or.inl rfl))) (fun _ _ _ _ _ => pts_nil) (fun _ _ _ _ _ => (vx_callX c__law_plane pat__law_plane_0 (.head _) hr (by decide) takes0 rfl (pa_cons (vx_callX c__law_cell pat__law_cell_0 (.head _) hr (by decide) takes0 rfl (pa_cons (pv 0) (pa_cons (pe_op op_add pe_int (pv 17)) pa_nil)) pk_nil) (pa_cons (pe_ix (ix_tupK (K := K)) (pe_ix (ix_listK (K := K)) (pv 8) (pv 17) (fun _ _ => rfl)) pe_int (fun _ _ => rfl)) (pa_cons (pe_ix (ix_tupK (K := K)) (pe_ix (ix_listK (K := K)) (pv 8) (pv 17) (fun _ _ => rfl)) pe_int (fun _ _ => rfl)) (pa_cons (pv 5) pa_nil)))) pk_nil)))
      (pss_cons (ps_setLc (i := 11) (y := "due") rfl sc_law.nd rfl rfl (sw_true rfl rfl rfl (by decide +kernel)) (own := [("k", 17)]) (g := gName 17) (pi_range1 rfl T.b_range (pa_cons (pv 6) pa_nil)) (blkOk_by (own := [("k", 17)]) (N := N_law) (sc := defScope s_law) (by decide +kernel)) (fun _ _ _ _ _ => (pg_name (i := 17) sc_law.nd rfl (Or.inl rfl))) (fun _ _ _ _ _ => pts_nil) (fun _ _ _ _ _ => (vx_callX c__law_padded pat__law_padded_0 (.head _) hr (by decide) takes0 rfl (pa_cons (pe_ix (ix_listK (K := K)) (pv 9) (pv 17) (fun _ _ => rfl)) (pa_cons (pe_ix (ix_tupK (K := K)) (pe_ix (ix_listK (K := K)) (pv 8) (pv 17) (fun _ _ => rfl)) pe_int (fun _ _ => rfl)) (pa_cons (pe_ix (ix_tupK (K := K)) (pe_ix (ix_listK (K := K)) (pv 8) (pv 17) (fun _ _ => rfl)) pe_int (fun _ _ => rfl)) pa_nil))) pk_nil)))
      (pss_cons (ps_set (i := 12) sc_law.nd rfl (Or.inl rfl) (vx_callX c__law_copy pat__law_copy_0 (.head _) hr (by decide) takes0 rfl (pa_cons (pv 9) pa_nil) pk_nil))
      (pss_cons (ps_set (i := 13) sc_law.nd rfl (Or.inl rfl) (vx_callX c_pad_frame pat_pad_frame_0 (.head _) hr (by decide) takes0 rfl (pa_cons (pv 4) (pa_cons (pv 9) pa_nil)) pk_nil))
      (C8.pss_cut (ps_if (PW.pt (pw_or (pt_not (pt_val (pe_callB call_isi (by rfl) T.b_isinstance (by decide +kernel) (pa_cons (pv 13) (pa_cons (pe_bltn (v := V.ty "list") (u := Value.type "list") (by rfl) T.b_list (by decide +kernel) rfl) pa_nil))))) (pw_or (pt_cmpR (op_neT (encOk_L (encOk_L (encOk_L encOk_int))) hr.units) (pv 13) (pv 11) (nomark _)) (pw_or1 (pt_cmpR (op_neT (encOk_L (encOk_L (encOk_L encOk_int))) hr.units) (pv 9) (pv 12) (nomark _)))))) (pss_one (ps_ret pe_bl)) pss_nil)
      (pss_cons (ps_set (i := 14) sc_law.nd rfl (Or.inl rfl) (vx_callX c_crop_planes pat_crop_planes_0 (.head _) hr (by decide) takes0 rfl (pa_cons (pv 4) (pa_cons (pv 13) pa_nil)) pk_nil))
      (pss_cons (ps_if (PW.pt (pw_or (pt_cmpR (op_neT (encOk_L (encOk_L (encOk_L encOk_int))) hr.units) (pv 14) (pv 12) (nomark _)) (pw_or1 (pt_cmpR (op_neT (encOk_L (encOk_L (encOk_L encOk_int))) hr.units) (pv 13) (pv 11) (nomark _))))) (pss_one (ps_ret pe_bl)) pss_nil)
      (pss_cons (ps_asg (pe_op op_add (pv 5) pe_int) (pg_sub (pe_ix (ix_listK (K := K)) (pe_ix (ix_listK (K := K)) (pv 14) pe_int (fun _ _ => rfl)) pe_int (fun _ _ => rfl)) pe_int set_list))
      (pss_cons (ps_set (i := 15) sc_law.nd rfl (Or.inl rfl) (vx_callX c__law_copy pat__law_copy_0 (.head _) hr (by decide) takes0 rfl (pa_cons (pv 12) pa_nil) pk_nil))
      (C8.pss_cut (ps_asg (pe_op op_add (pv 5) pe_int) (pg_sub (pe_ix (ix_listK (K := K)) (pe_ix (ix_listK (K := K)) (pv 15) pe_int (fun _ _ => rfl)) pe_int (fun _ _ => rfl)) pe_int set_list))
      (pss_cons (ps_set (i := 16) sc_law.nd rfl (Or.inl rfl) (vx_callX c__law_copy pat__law_copy_0 (.head _) hr (by decide) takes0 rfl (pa_cons (pv 11) pa_nil) pk_nil))
      (pss_cons (ps_for PassesOwn.never rfl (pi_range1 rfl T.b_range (pa_cons (pv 6) pa_nil)) (pg_name (i := 17) sc_law.nd rfl (Or.inl rfl)) (pss_cons (ps_for PassesOwn.never rfl (pi_range1 rfl T.b_range (pa_cons (pe_callB (call_lenLK (K := K)) (by rfl) T.b_len (by decide +kernel) (pa_cons (pe_ix (ix_listK (K := K)) (pv 16) (pv 17) (fun _ _ => rfl)) pa_nil)) pa_nil)) (pg_name (i := 18) sc_law.nd rfl (Or.inl rfl)) (pss_cons (ps_asg (pe_op op_sub (pe_un un_neg pe_int) (pv 18)) (pg_sub (pe_ix (ix_listK (K := K)) (pe_ix (ix_listK (K := K)) (pv 13) (pv 17) (fun _ _ => rfl)) (pv 18) (fun _ _ => rfl)) pe_int set_list))
      (pss_one (ps_asg (pe_op op_sub (pe_un un_neg pe_int) (pv 18)) (pg_sub (pe_ix (ix_listK (K := K)) (pe_ix (ix_listK (K := K)) (pv 16) (pv 17) (fun _ _ => rfl)) (pv 18) (fun _ _ => rfl)) pe_int set_list)))))
      (pss_cons (ps_expr (pe_bm PySem.F.plainAttrs_list PySem.F.slot_list_append PySem.F.type_list_append mt_append (pe_ix (ix_listK (K := K)) (pe_ix (ix_listK (K := K)) (pv 13) (pv 17) (fun _ _ => rfl)) (pe_un un_neg pe_int) (fun _ _ => rfl)) (pa_cons pe_int pa_nil)))
      (pss_one (ps_expr (pe_bm PySem.F.plainAttrs_list PySem.F.slot_list_append PySem.F.type_list_append mt_append (pe_ix (ix_listK (K := K)) (pe_ix (ix_listK (K := K)) (pv 16) (pv 17) (fun _ _ => rfl)) (pe_un un_neg pe_int) (fun _ _ => rfl)) (pa_cons pe_int pa_nil)))))))
      (pss_cons (ps_if (PW.pt (pw_or (pt_cmpR (op_neT (encOk_L (encOk_L (encOk_L encOk_int))) hr.units) (pv 9) (pv 12) (nomark _)) (pw_or (pt_cmpR (op_neT (encOk_L (encOk_L (encOk_L encOk_int))) hr.units) (pv 14) (pv 15) (nomark _)) (pw_or (pt_cmpR (op_neT (encOk_L (encOk_L (encOk_L encOk_int))) hr.units) (pv 13) (pv 16) (nomark _)) (pw_or1 (pt_cmpR (op_neT (encOk_L (encOk_L (encOk_L encOk_int))) hr.units) (vx_callX c_pad_frame pat_pad_frame_0 (.head _) hr (by decide) takes0 rfl (pa_cons (pv 4) (pa_cons (pv 9) pa_nil)) pk_nil) (pv 11) (nomark _))))))) (pss_one (ps_ret pe_bl)) pss_nil)
      (pss_cons (ps_set (i := 19) sc_law.nd rfl (Or.inr rfl) (vx_callX c__law_copy pat__law_copy_0 (.head _) hr (by decide) takes0 rfl (pa_cons (pv 10) pa_nil) pk_nil))
      (C8.pss_cut (ps_setLc (i := 20) (y := "cut") rfl sc_law.nd rfl rfl (sw_true rfl rfl rfl (by decide +kernel)) (own := [("k", 17)]) (g := gName 17) (pi_range1 rfl T.b_range (pa_cons (pv 6) pa_nil)) (blkOk_by (own := [("k", 17)]) (N := N_law) (sc := defScope s_law) (by decide +kernel)) (fun _ _ _ _ _ => (pg_name (i := 17) sc_law.nd rfl (Or.inr rfl))) (fun _ _ _ _ _ => pts_nil) (fun _ _ _ _ _ => (pe_lc (own := [("row", 23)]) (g := gName 23) (by rfl) sc_law.nd (pi_listK (K := K) (pe_slice (sl_listK (K := K)) (pe_ix (ix_listK (K := K)) (pv 19) (pv 17) (fun _ _ => rfl)) po_none (po_some (pe_ix (ix_tupK (K := K)) (pe_ix (ix_listK (K := K)) (pv 7) (pv 17) (fun _ _ => rfl)) pe_int (fun _ _ => rfl))))) (blk_relabel (blkOk_by (own := [("row", 23)]) (N := N_law) (by decide +kernel))) (fun _ _ _ _ _ => (pg_name (i := 23) sc_law.nd rfl (Or.inl rfl))) (fun _ _ _ _ _ => pts_nil) (fun _ _ _ _ _ => (pe_slice (sl_listK (K := K)) (pv 23) po_none (po_some (pe_ix (ix_tupK (K := K)) (pe_ix (ix_listK (K := K)) (pv 7) (pv 17) (fun _ _ => rfl)) pe_int (fun _ _ => rfl))))))))
      (pss_cons (ps_set (i := 21) sc_law.nd rfl (Or.inl rfl) (vx_callX c_crop_planes pat_crop_planes_0 (.head _) hr (by decide) takes0 rfl (pa_cons (pv 4) (pa_cons (pv 10) pa_nil)) pk_nil))
      (pss_cons (ps_if (PW.pt (pw_or (pt_cmpR (op_neT (encOk_L (encOk_L (encOk_L encOk_int))) hr.units) (pv 21) (pv 20) (nomark _)) (pw_or1 (pt_cmpR (op_neT (encOk_L (encOk_L (encOk_L encOk_int))) hr.units) (pv 10) (pv 19) (nomark _))))) (pss_one (ps_ret pe_bl)) pss_nil)
      (pss_cons (ps_for PassesOwn.never rfl (pi_range1 rfl T.b_range (pa_cons (pv 6) pa_nil)) (pg_name (i := 17) sc_law.nd rfl (Or.inl rfl)) (pss_cons (ps_asg (pe_un un_neg pe_int) (pg_sub (pe_ix (ix_listK (K := K)) (pe_ix (ix_listK (K := K)) (pv 21) (pv 17) (fun _ _ => rfl)) pe_int (fun _ _ => rfl)) pe_int set_list))
      (pss_cons (ps_asg (pe_un un_neg pe_int) (pg_sub (pe_ix (ix_listK (K := K)) (pe_ix (ix_listK (K := K)) (pv 20) (pv 17) (fun _ _ => rfl)) pe_int (fun _ _ => rfl)) pe_int set_list))
      (pss_cons (ps_expr (pe_bm PySem.F.plainAttrs_list PySem.F.slot_list_append PySem.F.type_list_append mt_append (pe_ix (ix_listK (K := K)) (pe_ix (ix_listK (K := K)) (pv 21) (pv 17) (fun _ _ => rfl)) (pe_un un_neg pe_int) (fun _ _ => rfl)) (pa_cons (pv 17) pa_nil)))
      (pss_one (ps_expr (pe_bm PySem.F.plainAttrs_list PySem.F.slot_list_append PySem.F.type_list_append mt_append (pe_ix (ix_listK (K := K)) (pe_ix (ix_listK (K := K)) (pv 20) (pv 17) (fun _ _ => rfl)) (pe_un un_neg pe_int) (fun _ _ => rfl)) (pa_cons (pv 17) pa_nil))))))))
      (pss_cons (ps_if (PW.pt (pw_or (pt_cmpR (op_neT (encOk_L (encOk_L (encOk_L encOk_int))) hr.units) (pv 21) (pv 20) (nomark _)) (pw_or1 (pt_cmpR (op_neT (encOk_L (encOk_L (encOk_L encOk_int))) hr.units) (pv 10) (pv 19) (nomark _))))) (pss_one (ps_ret pe_bl)) pss_nil)
      (pss_one (ps_ret (vx_callX c__law_refused pat__law_refused_0 (.head _) hr (by decide) takes0 rfl (pa_cons (pv 4) (pa_cons (vx_callX c__law_spoilt pat__law_spoilt_0 (.head _) hr (by decide) takes0 rfl (pa_cons (pv 10) (pa_cons (pe_ix (ix_listK (K := K)) (pv 1) pe_int (fun _ _ => rfl)) (pa_cons (pe_ix (ix_listK (K := K)) (pv 1) pe_int (fun _ _ => rfl)) (pa_cons (pe_ix (ix_listK (K := K)) (pv 1) pe_int (fun _ _ => rfl)) (pa_cons (pe_ix (ix_listK (K := K)) (pv 1) pe_int (fun _ _ => rfl)) pa_nil))))) pk_nil) pa_nil)) pk_nil)))))))))))))))))))))))))))))))), ?_⟩
    obtain ⟨KK, EE, hK0, hE, hw⟩ := cW_gen hw
    have S0 := Sep.start0 H
    unfold F_law at hw
    refine ⟨_, rfl, rfl, rfl, H, _, _, _, rfl, S0.sG, (S0.b0.seq q_script), cW_call hw (fun v2449 hw => ?_) (fun e he => (hE e he).elim)⟩
    refine ⟨(by show 8 ≤ sizeLine; decide), fun p2450 n2451 => ?_⟩
    generalize g2452 : upd H p2450 _ = H2453
    obtain ⟨e2454, h2455⟩ := gen_new n2451 g2452
    have h2456 : H2453 p2450 = some (.lst (([20, 20, 5, 3, 7, 3, 40, 256] : (List Int)).map V.int)) := h2455
    have fr2457 := S0.free n2451
    have S2458 := S0.new n2451 e2454 h2456 fr2457
    refine ⟨rfl, rfl, H, _, _, _, rfl, S2458.sG, (hide_nil h2456), cW_call hw (fun v2459 hw p2462 H2460 n2463 e2461 h2464 => ?_) (fun e he => (hE e he).elim)⟩
    have h2465 : H2460 p2462 = some (.lst ((v2459 : (List Int)).map V.int)) := h2464
    have fr2466 := S2458.free n2463
    have S2467 := S2458.new n2463 e2461 h2465 fr2466
    obtain ⟨g2468, hw⟩ := cW_grd hw
    refine ⟨_, rfl, _, _, _, _, rfl, rfl, (SqL.of h2465), (atI_map g2468), _, _, rfl, rfl, ?_⟩
    have hw := cW_bnd hw
    obtain ⟨g2470, hw⟩ := cW_grd hw
    refine ⟨_, rfl, _, _, _, _, rfl, rfl, (SqL.of h2465), (atI_map g2470), _, _, rfl, rfl, ?_⟩
    have hw := cW_bnd hw
    obtain ⟨g2472, hw⟩ := cW_grd hw
    obtain ⟨g2473, hw⟩ := cW_grd hw
    refine ⟨_, rfl, _, rfl, _, rfl, _, _, _, _, rfl, rfl, (SqL.of h2465), (atI_map g2472), _, _, rfl, rfl, _, rfl, _, _, _, _, rfl, rfl, (SqL.of h2465), (atI_map g2473), rfl, rfl, fun x2474 dx2475 n2476 n2477 n2478 => ?_⟩
    generalize g2479 : upd (upd H2460 dx2475 _) x2474 _ = H2480
    obtain ⟨e2481, h2482⟩ := gen_obj n2476 n2477 n2478 g2479
    have fr2483 := S2467.free n2476
    have S2484 := S2467.new n2476 e2481 h2482 fr2483
    refine ⟨H, _, _, _, _, _, _, rfl, S2484.sG, (S2484.gno (all_cons (.head _) all_nil)), h2482, cW_call hw (fun v2485 hw H2486 x2487 h2488 => ⟨rfl, ?_⟩) (fun e he => (hE e he).elim)⟩
    have S2489 : Sep _ _ _ _ H2486 [x2474, p2462, p2450] := Sep.init S2484 x2487 (.head _) h2488 [] all_nil
    refine ⟨fun σ H' => ∃ (top_2496 : Int) (G' : Hp), σ = [some (V.ref a_script), some (V.ref p2462), some (V.int ((1 + (itD (v2459) (0))))), some (V.int ((1 + (itD (v2459) (1))))), some (V.ref x2474), some (V.int top_2496), none, none, none, none, none, none, none, none, none, none, none, none, none, none, none, none, none, none] ∧ Same H G' ∧ Sep [] H H G' H' [p2462, x2474] ∧ H' p2462 = some (.lst ((v2459 : (List Int)).map V.int)) ∧ H' x2474 = some (.ins AD.c_Format dx2475 [("width", V.int (v2485.width)), ("height", V.int (v2485.height)), ("depth", V.int (v2485.depth)), ("chroma", V.int (v2485.chroma))]) ∧ cW (F_law_k1 (script') (v2459) ((1 + (itD (v2459) (0)))) ((1 + (itD (v2459) (1)))) (v2485) top_2496) KK EE, ?_, ?_⟩
    · obtain ⟨K2497, hK2498, hw⟩ := cW_push hw
      obtain ⟨g2499, hw⟩ := cW_grd hw
      have h2500 := ((SameXs.of x2487) _ _ (e2481 _ _ h2465) (ni1 (ne_of_none h2465 n2476)))
      obtain ⟨g2501, hw⟩ := cW_grd hw
      refine ⟨_, rfl, _, _, _, _, rfl, rfl, (SqL.of h2500), (atI_map g2499), _, _, rfl, rfl, _, _, rfl, rfl, (shl_side g2501.1 g2501.2.1 g2501.2.2.1 g2501.2.2.2), _, _, rfl, rfl, ?_⟩
      have hw := cW_bnd hw
      have hw := cW_ok hw
      have hw := hK2498 _ hw
      exact ⟨(((1 * 2 ^ Int.toNat ((8 + (itD (v2459) (2))))) - 1)), _, rfl, (Same.refl _), (S2489.sub (all_cons (.tail _ (.head _)) (all_cons (.head _) all_nil))), h2500, h2488, hw⟩
    · intro σ H2503 hw
      obtain ⟨top_2496, G2507, rfl, eG2508, S2504, h2505, h2506, hw⟩ := hw
      unfold F_law_k1 at hw
      refine ⟨fun σ H' => ∃ (count_2516 : Int) (G' : Hp), σ = [some (V.ref a_script), some (V.ref p2462), some (V.int ((1 + (itD (v2459) (0))))), some (V.int ((1 + (itD (v2459) (1))))), some (V.ref x2474), some (V.int (top_2496)), some (V.int count_2516), none, none, none, none, none, none, none, none, none, none, none, none, none, none, none, none, none] ∧ Same G2507 G' ∧ Sep [] H H G' H' [p2462, x2474] ∧ H' p2462 = some (.lst ((v2459 : (List Int)).map V.int)) ∧ H' x2474 = some (.ins AD.c_Format dx2475 [("width", V.int (v2485.width)), ("height", V.int (v2485.height)), ("depth", V.int (v2485.depth)), ("chroma", V.int (v2485.chroma))]) ∧ cW (F_law_k2 (script') (v2459) ((1 + (itD (v2459) (0)))) ((1 + (itD (v2459) (1)))) (v2485) (top_2496) count_2516) KK EE, ?_, ?_⟩
      · obtain ⟨K2517, hK2518, hw⟩ := cW_push hw
        obtain ⟨g2519, hw⟩ := cW_grd hw
        refine ⟨_, rfl, _, _, _, _, rfl, rfl, (SqL.of h2505), (atI_map g2519), _, _, rfl, rfl, _, rfl, ?_⟩
        refine iteD (fun c2520 => ?_) (fun c2520 => ?_)
        · have hw := cW_pos c2520 hw
          have hw := cW_ok hw
          have hw := hK2518 _ hw
          exact ⟨(3), _, rfl, (Same.refl _), S2504, h2505, h2506, hw⟩
        · have hw := cW_neg c2520 hw
          have hw := cW_ok hw
          have hw := hK2518 _ hw
          exact ⟨(1), _, rfl, (Same.refl _), S2504, h2505, h2506, hw⟩
      · intro σ H2521 hw
        obtain ⟨count_2516, G2525, rfl, eG2526, S2522, h2523, h2524, hw⟩ := hw
        unfold F_law_k2 at hw
        obtain ⟨g2527, hw⟩ := cW_grd hw
        obtain ⟨K2532, hK2533, hw⟩ := cW_push hw
        refine ⟨_, rfl, _, rfl, g2527.1, g2527.2, fun D2534 n2535 => lc_range (lo := 0) (n := Int.toNat (count_2516)) (fun i H' => ∃ (G' : Hp) (acc2537 : (List (Int × Int))) (vs2538 : List V), Same G2525 G' ∧ Sep [] H H G' H' [D2534, p2462, x2474] ∧ H' p2462 = some (.lst ((v2459 : (List Int)).map V.int)) ∧ H' x2474 = some (.ins AD.c_Format dx2475 [("width", V.int (v2485.width)), ("height", V.int (v2485.height)), ("depth", V.int (v2485.depth)), ("chroma", V.int (v2485.chroma))]) ∧ H' D2534 = some (.lst vs2538) ∧ RpAll G' vs2538 ((acc2537 : (List (Int × Int))).map (encT2 PyData.int PyData.int)) ∧ Same H2521 H' ∧ cW (mapA (List.drop i (rng (0) (Int.toNat (count_2516)))) acc2537 (fun x => noEr (F_law_c3 (v2459) ((1 + (itD (v2459) (0)))) ((1 + (itD (v2459) (1)))) x))) K2532 EE) ?_ ?_ ?_⟩
        · generalize g2539 : upd H2521 D2534 _ = H2540
          obtain ⟨e2541, h2542⟩ := gen_new n2535 g2539
          have fr2543 := S2522.free n2535
          have S2544 := S2522.new n2535 e2541 h2542 fr2543
          have h2545 := (e2541 _ _ h2523)
          have h2546 := (e2541 _ _ h2524)
          exact ⟨_, [], [], Same.refl _, S2544, h2545, h2546, h2542, RpAll.nil, e2541, hw⟩
        · intro i H2547 hi hw
          obtain ⟨G2550, acc2552, vs2553, eG2551, S2548, h2559, h2560, h2549, d2554, eo2558, hw⟩ := hw
          obtain ⟨z2561, hw⟩ := cW_mapA (rng_get hi) hw
          generalize (0 + (i : Int)) = x2562 at hw ⊢
          have hw := cW_noEr hw
          have hw : cW (F_law_c3 (v2459) ((1 + (itD (v2459) (0)))) ((1 + (itD (v2459) (1)))) (x2562)) _ (fun _ => False) := hw
          unfold F_law_c3 at hw
          refine ⟨rfl, ?_⟩
          refine tyes_go ?_
          obtain ⟨g2564, hw⟩ := cW_grd hw
          refine ⟨_, rfl, _, rfl, _, rfl, _, _, _, _, rfl, rfl, (SqL.of h2559), (atI_map g2564), _, rfl, rfl, rfl, G2550, _, _, _, _, rfl, S2548.sG, cW_call hw (fun v2565 hw v2568 H2566 G2569 e2567 eG2570 sG2571 hn2572 r2573 => ?_) (fun e he => he.elim)⟩
          have S2574 := S2548.step e2567 eG2570 sG2571 hn2572
          obtain ⟨a2575, v2577, v2578, rfl, h2576, r2579, r2580⟩ := rp_tup2 r2573
          obtain rfl := rp_int r2579
          obtain rfl := rp_int r2580
          have h2581 := (e2567 _ _ h2549)
          refine ⟨_, h2581, (app_len (RpAll.mono eG2570 d2554) z2561), ?_⟩
          generalize g2582 : upd H2566 D2534 _ = H2583
          obtain ⟨x2584, h2585⟩ := gen_mut g2582
          have S2586 := S2574.mut1 x2584 (.head _) h2585
          have hw := cW_ok hw
          have h2587 := (x2584 _ _ (e2567 _ _ h2559) (ne_of_none h2523 n2535))
          have h2588 := (x2584 _ _ (e2567 _ _ h2560) (ne_of_none h2524 n2535))
          exact ⟨_, (acc2552 ++ [v2565]), _, (Same.trans eG2551 eG2570), S2586, h2587, h2588, h2585, (app_map (RpAll.mono eG2570 d2554) (RpAll.one (rp_mk2 h2576 (.int _) (.int _)))), (same_mut (Same.trans eo2558 e2567) x2584 n2535), hw⟩
        intro H2589 hw
        obtain ⟨G2592, acc2594, vs2595, eG2593, S2590, h2601, h2602, h2591, d2596, eo2600, hw⟩ := hw
        have hw := hK2533 _ (cW_mapA0 (rng_len _ _).symm hw)
        have fr2603 := S2522.free n2535
        obtain ⟨g2604, hw⟩ := cW_grd hw
        obtain ⟨K2609, hK2610, hw⟩ := cW_push hw
        refine ⟨_, rfl, _, rfl, g2604.1, g2604.2, fun D2611 n2612 => lc_range (lo := 0) (n := Int.toNat (count_2516)) (fun i H' => ∃ (G' : Hp) (acc2614 : (List (Int × Int))) (vs2615 : List V), Same G2592 G' ∧ Sep [] H H G' H' [D2611, p2462, x2474, D2534] ∧ H' p2462 = some (.lst ((v2459 : (List Int)).map V.int)) ∧ H' x2474 = some (.ins AD.c_Format dx2475 [("width", V.int (v2485.width)), ("height", V.int (v2485.height)), ("depth", V.int (v2485.depth)), ("chroma", V.int (v2485.chroma))]) ∧ H' D2534 = some (.lst (vs2595)) ∧ H' D2611 = some (.lst vs2615) ∧ RpAll G' vs2615 ((acc2614 : (List (Int × Int))).map (encT2 PyData.int PyData.int)) ∧ Same H2589 H' ∧ cW (mapA (List.drop i (rng (0) (Int.toNat (count_2516)))) acc2614 (fun x => noEr (F_law_c4 (v2459) ((1 + (itD (v2459) (0)))) ((1 + (itD (v2459) (1)))) x))) K2609 EE) ?_ ?_ ?_⟩
        · generalize g2616 : upd H2589 D2611 _ = H2617
          obtain ⟨e2618, h2619⟩ := gen_new n2612 g2616
          have fr2620 := S2590.free n2612
          have S2621 := S2590.new n2612 e2618 h2619 fr2620
          have h2622 := (e2618 _ _ h2601)
          have h2623 := (e2618 _ _ h2602)
          have h2624 := (e2618 _ _ h2591)
          exact ⟨_, [], [], Same.refl _, (S2621.sub (all_cons (.head _) (all_cons (.tail _ (.tail _ (.head _))) (all_cons (.tail _ (.tail _ (.tail _ (.head _)))) (all_cons (.tail _ (.head _)) all_nil))))), h2622, h2623, h2624, h2619, RpAll.nil, e2618, hw⟩
        · intro i H2625 hi hw
          obtain ⟨G2628, acc2630, vs2631, eG2629, S2626, h2637, h2638, h2639, h2627, d2632, eo2636, hw⟩ := hw
          obtain ⟨z2640, hw⟩ := cW_mapA (rng_get hi) hw
          generalize (0 + (i : Int)) = x2641 at hw ⊢
          have hw := cW_noEr hw
          have hw : cW (F_law_c4 (v2459) ((1 + (itD (v2459) (0)))) ((1 + (itD (v2459) (1)))) (x2641)) _ (fun _ => False) := hw
          unfold F_law_c4 at hw
          refine ⟨rfl, ?_⟩
          refine tyes_go ?_
          refine ⟨_, rfl, rfl, rfl, G2628, _, rfl, S2626.sG, cW_call hw (fun v2643 hw => ?_) (fun e he => he.elim)⟩
          refine ⟨_, rfl, rfl, rfl, G2628, _, rfl, S2626.sG, cW_call hw (fun v2644 hw => ?_) (fun e he => he.elim)⟩
          obtain ⟨g2645, hw⟩ := cW_grd hw
          refine ⟨_, rfl, _, _, _, _, rfl, rfl, (SqL.of h2637), (atI_map g2645), _, rfl, rfl, rfl, G2628, _, _, _, _, rfl, S2626.sG, cW_call hw (fun v2646 hw v2649 H2647 G2650 e2648 eG2651 sG2652 hn2653 r2654 => ?_) (fun e he => he.elim)⟩
          have S2655 := S2626.step e2648 eG2651 sG2652 hn2653
          obtain ⟨a2656, v2658, v2659, rfl, h2657, r2660, r2661⟩ := rp_tup2 r2654
          obtain rfl := rp_int r2660
          obtain rfl := rp_int r2661
          have h2662 := (e2648 _ _ h2627)
          refine ⟨_, h2662, (app_len (RpAll.mono eG2651 d2632) z2640), ?_⟩
          generalize g2663 : upd H2647 D2611 _ = H2664
          obtain ⟨x2665, h2666⟩ := gen_mut g2663
          have S2667 := S2655.mut1 x2665 (.head _) h2666
          have hw := cW_ok hw
          have h2668 := (x2665 _ _ (e2648 _ _ h2637) (ne_of_none h2601 n2612))
          have h2669 := (x2665 _ _ (e2648 _ _ h2638) (ne_of_none h2602 n2612))
          have h2670 := (x2665 _ _ (e2648 _ _ h2639) (ne_of_none h2591 n2612))
          exact ⟨_, (acc2630 ++ [v2646]), _, (Same.trans eG2629 eG2651), S2667, h2668, h2669, h2670, h2666, (app_map (RpAll.mono eG2651 d2632) (RpAll.one (rp_mk2 h2657 (.int _) (.int _)))), (same_mut (Same.trans eo2636 e2648) x2665 n2612), hw⟩
        intro H2671 hw
        obtain ⟨G2674, acc2676, vs2677, eG2675, S2672, h2683, h2684, h2685, h2673, d2678, eo2682, hw⟩ := hw
        have hw := hK2610 _ (cW_mapA0 (rng_len _ _).symm hw)
        have fr2686 := S2590.free n2612
        refine ⟨fun σ H' => ∃ (frame_2695 : (List (List (List Int)))) (u2696 : V) (G' : Hp), σ = [some (V.ref a_script), some (V.ref p2462), some (V.int ((1 + (itD (v2459) (0))))), some (V.int ((1 + (itD (v2459) (1))))), some (V.ref x2474), some (V.int (top_2496)), some (V.int (count_2516)), some (V.ref D2534), some (V.ref D2611), some u2696, none, none, none, none, none, none, none, none, none, none, none, none, none, none] ∧ Same G2674 G' ∧ Sep [] H H G' H' [p2462, x2474, D2534, D2611] ∧ H' p2462 = some (.lst ((v2459 : (List Int)).map V.int)) ∧ H' x2474 = some (.ins AD.c_Format dx2475 [("width", V.int (v2485.width)), ("height", V.int (v2485.height)), ("depth", V.int (v2485.depth)), ("chroma", V.int (v2485.chroma))]) ∧ H' D2534 = some (.lst (vs2595)) ∧ H' D2611 = some (.lst (vs2677)) ∧ Rp G' u2696 ((encL (encL (encL PyData.int))) frame_2695) ∧ cW (F_law_k5 (script') (v2459) (v2485) (top_2496) (count_2516) (acc2594) (acc2676) frame_2695) KK EE, ?_, ?_⟩
        · obtain ⟨K2697, hK2698, hw⟩ := cW_push hw
          obtain ⟨g2699, hw⟩ := cW_grd hw
          obtain ⟨K2704, hK2705, hw⟩ := cW_push hw
          refine ⟨_, rfl, _, rfl, g2699.1, g2699.2, fun D2706 n2707 => lc_range (lo := 0) (n := Int.toNat (count_2516)) (fun i H' => ∃ (G' : Hp) (acc2709 : (List (List (List Int)))) (vs2710 : List V), Same G2674 G' ∧ Sep [] H H G' H' [D2706, p2462, x2474, D2534, D2611] ∧ H' p2462 = some (.lst ((v2459 : (List Int)).map V.int)) ∧ H' x2474 = some (.ins AD.c_Format dx2475 [("width", V.int (v2485.width)), ("height", V.int (v2485.height)), ("depth", V.int (v2485.depth)), ("chroma", V.int (v2485.chroma))]) ∧ H' D2534 = some (.lst (vs2595)) ∧ H' D2611 = some (.lst (vs2677)) ∧ H' D2706 = some (.lst vs2710) ∧ RpAll G' vs2710 ((acc2709 : (List (List (List Int)))).map (encL (encL PyData.int))) ∧ Same H2671 H' ∧ cW (mapA (List.drop i (rng (0) (Int.toNat (count_2516)))) acc2709 (fun x => noEr (F_law_c6 (script') (top_2496) (acc2594) x))) K2704 EE) ?_ ?_ ?_⟩
          · generalize g2711 : upd H2671 D2706 _ = H2712
            obtain ⟨e2713, h2714⟩ := gen_new n2707 g2711
            have fr2715 := S2672.free n2707
            have S2716 := S2672.new n2707 e2713 h2714 fr2715
            have h2717 := (e2713 _ _ h2683)
            have h2718 := (e2713 _ _ h2684)
            have h2719 := (e2713 _ _ h2685)
            have h2720 := (e2713 _ _ h2673)
            exact ⟨_, [], [], Same.refl _, (S2716.sub (all_cons (.head _) (all_cons (.tail _ (.tail _ (.head _))) (all_cons (.tail _ (.tail _ (.tail _ (.head _)))) (all_cons (.tail _ (.tail _ (.tail _ (.tail _ (.head _))))) (all_cons (.tail _ (.head _)) all_nil)))))), h2717, h2718, h2719, h2720, h2714, RpAll.nil, e2713, hw⟩
          · intro i H2721 hi hw
            obtain ⟨G2724, acc2726, vs2727, eG2725, S2722, h2733, h2734, h2735, h2736, h2723, d2728, eo2732, hw⟩ := hw
            obtain ⟨z2737, hw⟩ := cW_mapA (rng_get hi) hw
            generalize (0 + (i : Int)) = x2738 at hw ⊢
            have hw := cW_noEr hw
            have hw : cW (F_law_c6 (script') (top_2496) (acc2594) (x2738)) _ (fun _ => False) := hw
            unfold F_law_c6 at hw
            refine ⟨rfl, ?_⟩
            refine tyes_go ?_
            refine ⟨_, rfl, _, rfl, _, _, rfl, rfl, rfl, rfl, G2724, _, _, _, rfl, S2722.sG, (S2722.b0.seq q_script), cW_call hw (fun v2740 hw => ?_) (fun e he => he.elim)⟩
            obtain ⟨g2741, hw⟩ := cW_grd hw
            obtain ⟨v2742, a2743, r2744⟩ := RpAll.ixD (k := x2738) (RpAll.mono eG2725 (RpAll.mono eG2675 d2596)) g2741
            obtain ⟨a2745, v2747, v2748, rfl, h2746, r2749, r2750⟩ := rp_tup2 r2744
            obtain rfl := rp_int r2749
            obtain rfl := rp_int r2750
            obtain ⟨g2751, hw⟩ := cW_grd hw
            obtain ⟨v2752, a2753, r2754⟩ := RpAll.ixD (k := x2738) (RpAll.mono eG2725 (RpAll.mono eG2675 d2596)) g2751
            obtain ⟨a2755, v2757, v2758, rfl, h2756, r2759, r2760⟩ := rp_tup2 r2754
            obtain rfl := rp_int r2759
            obtain rfl := rp_int r2760
            refine ⟨_, rfl, _, rfl, _, _, _, _, rfl, rfl, (SqL.of h2735), a2743, _, _, _, _, rfl, rfl, (SqT.of (S2722.sG _ _ h2746)), rfl, _, rfl, _, rfl, _, _, _, _, rfl, rfl, (SqL.of h2735), a2753, _, _, _, _, rfl, rfl, (SqT.of (S2722.sG _ _ h2756)), rfl, _, rfl, rfl, rfl, G2724, _, _, _, _, rfl, S2722.sG, cW_call hw (fun v2761 hw v2764 H2762 G2765 e2763 eG2766 sG2767 hn2768 r2769 => ?_) (fun e he => he.elim)⟩
            have S2770 := S2722.step e2763 eG2766 sG2767 hn2768
            obtain ⟨a2771, vs2772, rfl, h2773, d2774⟩ := rp_list r2769
            have h2775 := (e2763 _ _ h2723)
            refine ⟨_, h2775, (app_len (RpAll.mono eG2766 d2728) z2737), ?_⟩
            generalize g2776 : upd H2762 D2706 _ = H2777
            obtain ⟨x2778, h2779⟩ := gen_mut g2776
            have S2780 := S2770.mut1 x2778 (.head _) h2779
            have hw := cW_ok hw
            have h2781 := (x2778 _ _ (e2763 _ _ h2733) (ne_of_none h2683 n2707))
            have h2782 := (x2778 _ _ (e2763 _ _ h2734) (ne_of_none h2684 n2707))
            have h2783 := (x2778 _ _ (e2763 _ _ h2735) (ne_of_none h2685 n2707))
            have h2784 := (x2778 _ _ (e2763 _ _ h2736) (ne_of_none h2673 n2707))
            exact ⟨_, (acc2726 ++ [v2761]), _, (Same.trans eG2725 eG2766), S2780, h2781, h2782, h2783, h2784, h2779, (app_map (RpAll.mono eG2766 d2728) (RpAll.one (rp_mk_list h2773 d2774))), (same_mut (Same.trans eo2732 e2763) x2778 n2707), hw⟩
          intro H2785 hw
          obtain ⟨G2788, acc2790, vs2791, eG2789, S2786, h2797, h2798, h2799, h2800, h2787, d2792, eo2796, hw⟩ := hw
          have hw := hK2705 _ (cW_mapA0 (rng_len _ _).symm hw)
          have fr2801 := S2672.free n2707
          have hw := cW_ok hw
          have hw := hK2698 _ hw
          obtain ⟨G2802, eG2803, hg2804, S2805⟩ := Sep.freeze (O' := [p2462, x2474, D2534, D2611]) S2786 (.head _) h2787 fr2801 ((all_cons ⟨(.tail _ (.head _)), (ne_of_none h2683 n2707)⟩ (all_cons ⟨(.tail _ (.tail _ (.head _))), (ne_of_none h2684 n2707)⟩ (all_cons ⟨(.tail _ (.tail _ (.tail _ (.head _)))), (ne_of_none h2685 n2707)⟩ (all_cons ⟨(.tail _ (.tail _ (.tail _ (.tail _ (.head _))))), (ne_of_none h2673 n2707)⟩ all_nil)))))
          exact ⟨(acc2790), _, _, rfl, (Same.trans eG2789 eG2803), S2805, h2797, h2798, h2799, h2800, (rp_mk_list hg2804 (RpAll.mono eG2803 d2792)), hw⟩
        · intro σ H2806 hw
          obtain ⟨frame_2695, u2696, G2813, rfl, eG2814, S2807, h2808, h2809, h2810, h2811, r2812, hw⟩ := hw
          obtain ⟨a2815, vs2816, rfl, h2817, d2818⟩ := rp_list r2812
          unfold F_law_k5 at hw
          obtain ⟨g2819, hw⟩ := cW_grd hw
          obtain ⟨K2824, hK2825, hw⟩ := cW_push hw
          refine ⟨_, rfl, _, rfl, g2819.1, g2819.2, fun D2826 n2827 => lc_range (lo := 0) (n := Int.toNat (count_2516)) (fun i H' => ∃ (G' : Hp) (acc2829 : (List (List (List Int)))) (vs2830 : List V), Same G2813 G' ∧ Sep [] H H G' H' [D2826, p2462, x2474, D2534, D2611] ∧ H' p2462 = some (.lst ((v2459 : (List Int)).map V.int)) ∧ H' x2474 = some (.ins AD.c_Format dx2475 [("width", V.int (v2485.width)), ("height", V.int (v2485.height)), ("depth", V.int (v2485.depth)), ("chroma", V.int (v2485.chroma))]) ∧ H' D2534 = some (.lst (vs2595)) ∧ H' D2611 = some (.lst (vs2677)) ∧ H' D2826 = some (.lst vs2830) ∧ RpAll G' vs2830 ((acc2829 : (List (List (List Int)))).map (encL (encL PyData.int))) ∧ Same H2806 H' ∧ cW (mapA (List.drop i (rng (0) (Int.toNat (count_2516)))) acc2829 (fun x => noEr (F_law_c7 (script') (top_2496) (acc2676) x))) K2824 EE) ?_ ?_ ?_⟩
          · generalize g2831 : upd H2806 D2826 _ = H2832
            obtain ⟨e2833, h2834⟩ := gen_new n2827 g2831
            have fr2835 := S2807.free n2827
            have S2836 := S2807.new n2827 e2833 h2834 fr2835
            have h2837 := (e2833 _ _ h2808)
            have h2838 := (e2833 _ _ h2809)
            have h2839 := (e2833 _ _ h2810)
            have h2840 := (e2833 _ _ h2811)
            exact ⟨_, [], [], Same.refl _, S2836, h2837, h2838, h2839, h2840, h2834, RpAll.nil, e2833, hw⟩
          · intro i H2841 hi hw
            obtain ⟨G2844, acc2846, vs2847, eG2845, S2842, h2853, h2854, h2855, h2856, h2843, d2848, eo2852, hw⟩ := hw
            obtain ⟨z2857, hw⟩ := cW_mapA (rng_get hi) hw
            generalize (0 + (i : Int)) = x2858 at hw ⊢
            have hw := cW_noEr hw
            have hw : cW (F_law_c7 (script') (top_2496) (acc2676) (x2858)) _ (fun _ => False) := hw
            unfold F_law_c7 at hw
            refine ⟨rfl, ?_⟩
            refine tyes_go ?_
            refine ⟨_, rfl, _, rfl, _, _, rfl, rfl, rfl, rfl, G2844, _, _, _, rfl, S2842.sG, (S2842.b0.seq q_script), cW_call hw (fun v2860 hw => ?_) (fun e he => he.elim)⟩
            obtain ⟨g2861, hw⟩ := cW_grd hw
            obtain ⟨v2862, a2863, r2864⟩ := RpAll.ixD (k := x2858) (RpAll.mono eG2845 (RpAll.mono eG2814 d2678)) g2861
            obtain ⟨a2865, v2867, v2868, rfl, h2866, r2869, r2870⟩ := rp_tup2 r2864
            obtain rfl := rp_int r2869
            obtain rfl := rp_int r2870
            obtain ⟨g2871, hw⟩ := cW_grd hw
            obtain ⟨v2872, a2873, r2874⟩ := RpAll.ixD (k := x2858) (RpAll.mono eG2845 (RpAll.mono eG2814 d2678)) g2871
            obtain ⟨a2875, v2877, v2878, rfl, h2876, r2879, r2880⟩ := rp_tup2 r2874
            obtain rfl := rp_int r2879
            obtain rfl := rp_int r2880
            refine ⟨_, rfl, _, rfl, _, _, _, _, rfl, rfl, (SqL.of h2856), a2863, _, _, _, _, rfl, rfl, (SqT.of (S2842.sG _ _ h2866)), rfl, _, rfl, _, rfl, _, _, _, _, rfl, rfl, (SqL.of h2856), a2873, _, _, _, _, rfl, rfl, (SqT.of (S2842.sG _ _ h2876)), rfl, _, rfl, rfl, rfl, G2844, _, _, _, _, rfl, S2842.sG, cW_call hw (fun v2881 hw v2884 H2882 G2885 e2883 eG2886 sG2887 hn2888 r2889 => ?_) (fun e he => he.elim)⟩
            have S2890 := S2842.step e2883 eG2886 sG2887 hn2888
            obtain ⟨a2891, vs2892, rfl, h2893, d2894⟩ := rp_list r2889
            have h2895 := (e2883 _ _ h2843)
            refine ⟨_, h2895, (app_len (RpAll.mono eG2886 d2848) z2857), ?_⟩
            generalize g2896 : upd H2882 D2826 _ = H2897
            obtain ⟨x2898, h2899⟩ := gen_mut g2896
            have S2900 := S2890.mut1 x2898 (.head _) h2899
            have hw := cW_ok hw
            have h2901 := (x2898 _ _ (e2883 _ _ h2853) (ne_of_none h2808 n2827))
            have h2902 := (x2898 _ _ (e2883 _ _ h2854) (ne_of_none h2809 n2827))
            have h2903 := (x2898 _ _ (e2883 _ _ h2855) (ne_of_none h2810 n2827))
            have h2904 := (x2898 _ _ (e2883 _ _ h2856) (ne_of_none h2811 n2827))
            exact ⟨_, (acc2846 ++ [v2881]), _, (Same.trans eG2845 eG2886), S2900, h2901, h2902, h2903, h2904, h2899, (app_map (RpAll.mono eG2886 d2848) (RpAll.one (rp_mk_list h2893 d2894))), (same_mut (Same.trans eo2852 e2883) x2898 n2827), hw⟩
          intro H2905 hw
          obtain ⟨G2908, acc2910, vs2911, eG2909, S2906, h2917, h2918, h2919, h2920, h2907, d2912, eo2916, hw⟩ := hw
          have hw := hK2825 _ (cW_mapA0 (rng_len _ _).symm hw)
          have fr2921 := S2807.free n2827
          obtain ⟨g2922, hw⟩ := cW_grd hw
          obtain ⟨K2926, hK2927, hw⟩ := cW_push hw
          refine ⟨_, rfl, _, rfl, g2922.1, g2922.2, fun D2928 n2929 => lc_range (lo := 0) (n := Int.toNat (count_2516)) (fun i H' => ∃ (G' : Hp) (acc2931 : (List (List (List Int)))) (vs2932 : List V), Same G2908 G' ∧ Sep [] H H G' H' [D2928, p2462, x2474, D2534, D2611, D2826] ∧ H' p2462 = some (.lst ((v2459 : (List Int)).map V.int)) ∧ H' x2474 = some (.ins AD.c_Format dx2475 [("width", V.int (v2485.width)), ("height", V.int (v2485.height)), ("depth", V.int (v2485.depth)), ("chroma", V.int (v2485.chroma))]) ∧ H' D2534 = some (.lst (vs2595)) ∧ H' D2611 = some (.lst (vs2677)) ∧ H' D2826 = some (.lst (vs2911)) ∧ H' D2928 = some (.lst vs2932) ∧ RpAll G' vs2932 ((acc2931 : (List (List (List Int)))).map (encL (encL PyData.int))) ∧ Same H2905 H' ∧ cW (mapA (List.drop i (rng (0) (Int.toNat (count_2516)))) acc2931 (fun x => noEr (F_law_c8 (acc2676) (frame_2695) x))) K2926 EE) ?_ ?_ ?_⟩
          · generalize g2933 : upd H2905 D2928 _ = H2934
            obtain ⟨e2935, h2936⟩ := gen_new n2929 g2933
            have fr2937 := S2906.free n2929
            have S2938 := S2906.new n2929 e2935 h2936 fr2937
            have h2939 := (e2935 _ _ h2917)
            have h2940 := (e2935 _ _ h2918)
            have h2941 := (e2935 _ _ h2919)
            have h2942 := (e2935 _ _ h2920)
            have h2943 := (e2935 _ _ h2907)
            exact ⟨_, [], [], Same.refl _, (S2938.sub (all_cons (.head _) (all_cons (.tail _ (.tail _ (.head _))) (all_cons (.tail _ (.tail _ (.tail _ (.head _)))) (all_cons (.tail _ (.tail _ (.tail _ (.tail _ (.head _))))) (all_cons (.tail _ (.tail _ (.tail _ (.tail _ (.tail _ (.head _)))))) (all_cons (.tail _ (.head _)) all_nil))))))), h2939, h2940, h2941, h2942, h2943, h2936, RpAll.nil, e2935, hw⟩
          · intro i H2944 hi hw
            obtain ⟨G2947, acc2949, vs2950, eG2948, S2945, h2956, h2957, h2958, h2959, h2960, h2946, d2951, eo2955, hw⟩ := hw
            obtain ⟨z2961, hw⟩ := cW_mapA (rng_get hi) hw
            generalize (0 + (i : Int)) = x2962 at hw ⊢
            have hw := cW_noEr hw
            have hw : cW (F_law_c8 (acc2676) (frame_2695) (x2962)) _ (fun _ => False) := hw
            unfold F_law_c8 at hw
            refine ⟨rfl, ?_⟩
            refine tyes_go ?_
            obtain ⟨g2964, hw⟩ := cW_grd hw
            obtain ⟨v2965, a2966, r2967⟩ := RpAll.ixD (k := x2962) (RpAll.mono eG2948 (RpAll.mono eG2909 d2818)) g2964
            obtain ⟨a2968, vs2969, rfl, h2970, d2971⟩ := rp_list r2967
            obtain ⟨g2972, hw⟩ := cW_grd hw
            obtain ⟨v2973, a2974, r2975⟩ := RpAll.ixD (k := x2962) (RpAll.mono eG2948 (RpAll.mono eG2909 (RpAll.mono eG2814 d2678))) g2972
            obtain ⟨a2976, v2978, v2979, rfl, h2977, r2980, r2981⟩ := rp_tup2 r2975
            obtain rfl := rp_int r2980
            obtain rfl := rp_int r2981
            obtain ⟨g2982, hw⟩ := cW_grd hw
            obtain ⟨v2983, a2984, r2985⟩ := RpAll.ixD (k := x2962) (RpAll.mono eG2948 (RpAll.mono eG2909 (RpAll.mono eG2814 d2678))) g2982
            obtain ⟨a2986, v2988, v2989, rfl, h2987, r2990, r2991⟩ := rp_tup2 r2985
            obtain rfl := rp_int r2990
            obtain rfl := rp_int r2991
            refine ⟨_, rfl, _, rfl, _, _, _, _, rfl, rfl, (SqL.of (S2945.sG _ _ (eG2948 _ _ (eG2909 _ _ h2817)))), a2966, _, rfl, _, rfl, _, _, _, _, rfl, rfl, (SqL.of h2959), a2974, _, _, _, _, rfl, rfl, (SqT.of (S2945.sG _ _ h2977)), rfl, _, rfl, _, rfl, _, _, _, _, rfl, rfl, (SqL.of h2959), a2984, _, _, _, _, rfl, rfl, (SqT.of (S2945.sG _ _ h2987)), rfl, rfl, rfl, G2947, _, _, _, _, rfl, S2945.sG, (Rp.hide_nil (rp_mk_list (S2945.sG _ _ h2970) (RpAll.mono S2945.sG d2971))), cW_call hw (fun v2992 hw v2995 H2993 G2996 e2994 eG2997 sG2998 hn2999 r3000 => ?_) (fun e he => he.elim)⟩
            have S3001 := S2945.step e2994 eG2997 sG2998 hn2999
            obtain ⟨a3002, vs3003, rfl, h3004, d3005⟩ := rp_list r3000
            have h3006 := (e2994 _ _ h2946)
            refine ⟨_, h3006, (app_len (RpAll.mono eG2997 d2951) z2961), ?_⟩
            generalize g3007 : upd H2993 D2928 _ = H3008
            obtain ⟨x3009, h3010⟩ := gen_mut g3007
            have S3011 := S3001.mut1 x3009 (.head _) h3010
            have hw := cW_ok hw
            have h3012 := (x3009 _ _ (e2994 _ _ h2956) (ne_of_none h2917 n2929))
            have h3013 := (x3009 _ _ (e2994 _ _ h2957) (ne_of_none h2918 n2929))
            have h3014 := (x3009 _ _ (e2994 _ _ h2958) (ne_of_none h2919 n2929))
            have h3015 := (x3009 _ _ (e2994 _ _ h2959) (ne_of_none h2920 n2929))
            have h3016 := (x3009 _ _ (e2994 _ _ h2960) (ne_of_none h2907 n2929))
            exact ⟨_, (acc2949 ++ [v2992]), _, (Same.trans eG2948 eG2997), S3011, h3012, h3013, h3014, h3015, h3016, h3010, (app_map (RpAll.mono eG2997 d2951) (RpAll.one (rp_mk_list h3004 d3005))), (same_mut (Same.trans eo2955 e2994) x3009 n2929), hw⟩
          intro H3017 hw
          obtain ⟨G3020, acc3022, vs3023, eG3021, S3018, h3029, h3030, h3031, h3032, h3033, h3019, d3024, eo3028, hw⟩ := hw
          have hw := hK2927 _ (cW_mapA0 (rng_len _ _).symm hw)
          have fr3034 := S2906.free n2929
          refine ⟨_, rfl, rfl, rfl, G3020, _, _, rfl, S3018.sG, (Rp.hide_nil (rp_mk_list (S3018.sG _ _ (eG3021 _ _ (eG2909 _ _ h2817))) (RpAll.mono S3018.sG (RpAll.mono eG3021 (RpAll.mono eG2909 d2818))))), cW_call hw (fun v3035 hw H3036 a3038 vs3039 L3040 G3041 n3042 nb3043 nd3044 e3037 eG3045 sG3046 hn3047 ga3048 gL3049 h3050 w3051 => ?_) (fun e he => (hE e he).elim)⟩
          have fr3052 := S3018.free n3042
          have S3053 : Sep _ _ _ _ H3036 (a3038 :: (L3040 ++ (D2928 :: (p2462 :: (x2474 :: (D2534 :: (D2611 :: (D2826 :: [])))))))) := Sep.steptree S3018 e3037 eG3045 sG3046 hn3047 (a3038 :: L3040) (all_cons ⟨n3042, ga3048, some_ne h3050⟩ (fun b hb => ⟨nb3043 b hb, gL3049 b hb, OwAll.there w3051 b hb⟩))
          obtain ⟨G3054, eG3055, k3056, S3057⟩ := Sep.freezeL (L := (a3038 :: L3040)) (O' := [D2928, p2462, x2474, D2534, D2611, D2826]) S3053 ((all_cons (.head _) ((fun b hb => (.tail _ (List.mem_append_left _ hb))) : ∀ b ∈ L3040, b ∈ (a3038 :: (L3040 ++ (D2928 :: (p2462 :: (x2474 :: (D2534 :: (D2611 :: (D2826 :: [])))))))))) : ∀ b ∈ (a3038 :: L3040), b ∈ (a3038 :: (L3040 ++ (D2928 :: (p2462 :: (x2474 :: (D2534 :: (D2611 :: (D2826 :: []))))))))) ((all_cons fr3052 (fun b hb => Sep.h0 S3053 (((fun b hb => (.tail _ (List.mem_append_left _ hb))) : ∀ b ∈ L3040, b ∈ (a3038 :: (L3040 ++ (D2928 :: (p2462 :: (x2474 :: (D2534 :: (D2611 :: (D2826 :: []))))))))) b hb) nm_nil)) : ∀ b ∈ (a3038 :: L3040), H b = none) ((all_cons ⟨(.tail _ (List.mem_append_right _ (.head _))), (nm_cons (ne_of_none h3019 n3042) (fun z => (new_ne2 nb3043 (S3018.ow _ (.head _)).2.1) _ z rfl))⟩ (all_cons ⟨(.tail _ (List.mem_append_right _ (.tail _ (.head _)))), (nm_cons (ne_of_none h3029 n3042) (fun z => (new_ne2 nb3043 (S3018.ow _ (.tail _ (.head _))).2.1) _ z rfl))⟩ (all_cons ⟨(.tail _ (List.mem_append_right _ (.tail _ (.tail _ (.head _))))), (nm_cons (ne_of_none h3030 n3042) (fun z => (new_ne2 nb3043 (S3018.ow _ (.tail _ (.tail _ (.head _)))).2.1) _ z rfl))⟩ (all_cons ⟨(.tail _ (List.mem_append_right _ (.tail _ (.tail _ (.tail _ (.head _)))))), (nm_cons (ne_of_none h3031 n3042) (fun z => (new_ne2 nb3043 (S3018.ow _ (.tail _ (.tail _ (.tail _ (.head _))))).2.1) _ z rfl))⟩ (all_cons ⟨(.tail _ (List.mem_append_right _ (.tail _ (.tail _ (.tail _ (.tail _ (.head _))))))), (nm_cons (ne_of_none h3032 n3042) (fun z => (new_ne2 nb3043 (S3018.ow _ (.tail _ (.tail _ (.tail _ (.tail _ (.head _)))))).2.1) _ z rfl))⟩ (all_cons ⟨(.tail _ (List.mem_append_right _ (.tail _ (.tail _ (.tail _ (.tail _ (.tail _ (.head _)))))))), (nm_cons (ne_of_none h3033 n3042) (fun z => (new_ne2 nb3043 (S3018.ow _ (.tail _ (.tail _ (.tail _ (.tail _ (.tail _ (.head _))))))).2.1) _ z rfl))⟩ all_nil)))))))
          have hg3058 := k3056 _ List.mem_cons_self _ h3050
          have d3059 := OwAll.rpH w3051 (encO_L (encO_L encO_I)) eG3055 (fun b hb => k3056 b (List.mem_cons_of_mem _ hb))
          have h3060 := (e3037 _ _ h3030)
          refine ⟨_, rfl, _, rfl, rfl, rfl, G3054, _, _, v2485, _, _, rfl, S3057.sG, (hide_nil h3060), (Rp.hide_nil (rp_mk_list (S3057.sG _ _ (eG3055 _ _ (eG3045 _ _ (eG3021 _ _ (eG2909 _ _ h2817))))) (RpAll.mono S3057.sG (RpAll.mono eG3055 (RpAll.mono eG3045 (RpAll.mono eG3021 (RpAll.mono eG2909 d2818))))))), cW_call hw (fun v3061 hw H3062 a3064 vs3065 L3066 G3067 n3068 nb3069 nd3070 e3063 eG3071 sG3072 hn3073 ga3074 gL3075 h3076 w3077 => ?_) (fun e he => (hE e he).elim)⟩
          have fr3078 := S3057.free n3068
          have S3079 : Sep _ _ _ _ H3062 (a3064 :: (L3066 ++ (D2928 :: (p2462 :: (x2474 :: (D2534 :: (D2611 :: (D2826 :: [])))))))) := Sep.steptree S3057 e3063 eG3071 sG3072 hn3073 (a3064 :: L3066) (all_cons ⟨n3068, ga3074, some_ne h3076⟩ (fun b hb => ⟨nb3069 b hb, gL3075 b hb, OwAll.there w3077 b hb⟩))
          refine ⟨fun σ H' => ∃ (G' : Hp), σ = [some (V.ref a_script), some (V.ref p2462), some (V.int ((1 + (itD (v2459) (0))))), some (V.int ((1 + (itD (v2459) (1))))), some (V.ref x2474), some (V.int (top_2496)), some (V.int (count_2516)), some (V.ref D2534), some (V.ref D2611), some (V.ref a2815), some (V.ref D2826), some (V.ref D2928), some (V.ref a3038), some (V.ref a3064), none, none, none, none, none, none, none, none, none, none] ∧ Same G3067 G' ∧ Sep [] H H G' H' (p2462 :: (x2474 :: (D2534 :: (D2611 :: (D2826 :: (D2928 :: (a3064 :: (L3066 ++ [])))))))) ∧ H' p2462 = some (.lst ((v2459 : (List Int)).map V.int)) ∧ H' x2474 = some (.ins AD.c_Format dx2475 [("width", V.int (v2485.width)), ("height", V.int (v2485.height)), ("depth", V.int (v2485.depth)), ("chroma", V.int (v2485.chroma))]) ∧ H' D2534 = some (.lst (vs2595)) ∧ H' D2611 = some (.lst (vs2677)) ∧ H' D2826 = some (.lst (vs2911)) ∧ H' D2928 = some (.lst (vs3023)) ∧ H' a3064 = some (.lst (vs3065)) ∧ OwAll G' H' L3066 (vs3065) ((v3061 : (List (List (List Int)))).map (oL (oL oI))) ∧ cW (F_law_k9 (v2459) (v2485) (top_2496) (count_2516) (acc2594) (frame_2695) (acc2910) (acc3022) (v3035) (v3061) ) KK EE, ?_, ?_⟩
          · obtain ⟨K3090, hK3091, hw⟩ := cW_push hw
            refine ⟨_, rfl, _, _, _, _, _, rfl, (.ty _), (.base (.lst h3076)), rfl, _, rfl, ?_⟩
            refine iteF ?_
            have h3092 := (e3063 _ _ (e3037 _ _ h3019))
            refine ⟨_, rfl, _, rfl, _, _, (rp_mk_list h3076 (OwAll.rpA w3077 (encO_L (encO_L encO_I)) S3079.sG)), (rp_mk_list h3092 (RpAll.mono S3079.sG (RpAll.mono eG3071 (RpAll.mono eG3055 (RpAll.mono eG3045 d3024))))), _, rfl, ?_⟩
            refine iteN (fun c3093 => ?_) (fun c3093 => ?_)
            · have hw := cW_neg c3093 hw
              refine iteT ?_
              have hw := cW_ok hw
              have hw := hK3091 (.rt _) hw
              have hw := cW_ok hw
              exact eq_bl (k _) (hK0 _ hw).symm
            · have hw := cW_pos c3093 hw
              refine ⟨_, rfl, _, rfl, _, _, (rp_mk_list (S3079.sG _ _ (eG3071 _ _ (eG3055 _ _ (eG3045 _ _ (eG3021 _ _ (eG2909 _ _ h2817)))))) (RpAll.mono S3079.sG (RpAll.mono eG3071 (RpAll.mono eG3055 (RpAll.mono eG3045 (RpAll.mono eG3021 (RpAll.mono eG2909 d2818))))))), (rp_mk_list (S3079.sG _ _ (eG3071 _ _ hg3058)) (RpAll.mono S3079.sG (RpAll.mono eG3071 d3059))), _, rfl, ?_⟩
              refine iteN (fun c3094 => ?_) (fun c3094 => ?_)
              · have hw := cW_neg c3094 hw
                have hw := cW_ok hw
                have hw := hK3091 (.rt _) hw
                have hw := cW_ok hw
                exact eq_bl (k _) (hK0 _ hw).symm
              · have hw := cW_pos c3094 hw
                have hw := cW_ok hw
                have hw := cW_aftgo (hK3091 (.go _) hw)
                have h3095 := (e3063 _ _ (e3037 _ _ h3029))
                have h3096 := (e3063 _ _ h3060)
                have h3097 := (e3063 _ _ (e3037 _ _ h3031))
                have h3098 := (e3063 _ _ (e3037 _ _ h3032))
                have h3099 := (e3063 _ _ (e3037 _ _ h3033))
                exact ⟨_, rfl, (Same.refl _), (S3079.sub (all_cons (.tail _ (List.mem_append_right _ (.tail _ (.head _)))) (all_cons (.tail _ (List.mem_append_right _ (.tail _ (.tail _ (.head _))))) (all_cons (.tail _ (List.mem_append_right _ (.tail _ (.tail _ (.tail _ (.head _)))))) (all_cons (.tail _ (List.mem_append_right _ (.tail _ (.tail _ (.tail _ (.tail _ (.head _))))))) (all_cons (.tail _ (List.mem_append_right _ (.tail _ (.tail _ (.tail _ (.tail _ (.tail _ (.head _)))))))) (all_cons (.tail _ (List.mem_append_right _ (.head _))) (all_cons (.head _) (all_app ((fun b hb => (.tail _ (List.mem_append_left _ hb))) : ∀ b ∈ L3066, b ∈ (a3064 :: (L3066 ++ (D2928 :: (p2462 :: (x2474 :: (D2534 :: (D2611 :: (D2826 :: []))))))))) all_nil))))))))), h3095, h3096, h3097, h3098, h3099, h3092, h3076, w3077, hw⟩
          · intro σ H3100 hw
            obtain ⟨G3110, rfl, eG3111, S3101, h3102, h3103, h3104, h3105, h3106, h3107, h3108, w3109, hw⟩ := hw
            unfold F_law_k9 at hw
            refine ⟨_, rfl, _, rfl, rfl, rfl, G3110, _, _, v2485, _, _, rfl, S3101.sG, (hide_nil h3103), (Rp.hide_nil (rp_mk_list h3108 (OwAll.rpA w3109 (encO_L (encO_L encO_I)) S3101.sG))), cW_call hw (fun v3112 hw H3113 a3115 vs3116 L3117 G3118 n3119 nb3120 nd3121 e3114 eG3122 sG3123 hn3124 ga3125 gL3126 h3127 w3128 => ?_) (fun e he => (hE e he).elim)⟩
            have fr3129 := S3101.free n3119
            have S3130 : Sep _ _ _ _ H3113 (a3115 :: (L3117 ++ (p2462 :: (x2474 :: (D2534 :: (D2611 :: (D2826 :: (D2928 :: (a3064 :: (L3066 ++ [])))))))))) := Sep.steptree S3101 e3114 eG3122 sG3123 hn3124 (a3115 :: L3117) (all_cons ⟨n3119, ga3125, some_ne h3127⟩ (fun b hb => ⟨nb3120 b hb, gL3126 b hb, OwAll.there w3128 b hb⟩))
            refine ⟨_, rfl, _, rfl, _, _, (rp_mk_list h3127 (OwAll.rpA w3128 (encO_L (encO_L encO_I)) S3130.sG)), (rp_mk_list (S3130.sG _ _ (eG3122 _ _ (eG3111 _ _ (eG3071 _ _ hg3058)))) (RpAll.mono S3130.sG (RpAll.mono eG3122 (RpAll.mono eG3111 (RpAll.mono eG3071 d3059))))), _, rfl, ?_⟩
            refine iteN (fun c3131 => ?_) (fun c3131 => ?_)
            · have hw := cW_neg c3131 hw
              refine iteT ?_
              have hw := cW_ok hw
              exact eq_bl (k _) (hK0 _ hw).symm
            · have hw := cW_pos c3131 hw
              have h3132 := (e3114 _ _ h3108)
              have w3133 : OwAll G3118 H3113 L3066 (vs3065) ((v3061 : (List (List (List Int)))).map (oL (oL oI))) := (OwAll.mono eG3122 keeps_refl (OwAll.mono (Same.refl _) (keeps_same e3114) w3109))
              have h3134 := (e3114 _ _ h3107)
              refine ⟨_, rfl, _, rfl, _, _, (rp_mk_list h3132 (OwAll.rpA w3133 (encO_L (encO_L encO_I)) S3130.sG)), (rp_mk_list h3134 (RpAll.mono S3130.sG (RpAll.mono eG3122 (RpAll.mono eG3111 (RpAll.mono eG3071 (RpAll.mono eG3055 (RpAll.mono eG3045 d3024))))))), _, rfl, ?_⟩
              refine iteN (fun c3135 => ?_) (fun c3135 => ?_)
              · have hw := cW_neg c3135 hw
                have hw := cW_ok hw
                exact eq_bl (k _) (hK0 _ hw).symm
              · have hw := cW_pos c3135 hw
                obtain ⟨g3136, hw⟩ := cW_grd hw
                obtain ⟨v3137, L3138, a3139, w3140, hs3141, up3142, gr3143⟩ := OwAll.partM (k := 0) w3128 g3136
                obtain ⟨b3144, vs3145, L3146, rfl, rfl, h3147, w3148, nb3149⟩ := Ow.toList w3140
                obtain ⟨g3150, hw⟩ := cW_grd hw
                obtain ⟨v3151, L3152, a3153, w3154, hs3155, up3156, gr3157⟩ := OwAll.partM (k := 0) w3148 g3150
                obtain ⟨b3158, rfl, rfl, h3159⟩ := Ow.toInts w3154
                obtain ⟨g3160, hw⟩ := cW_grd hw
                refine ⟨_, rfl, _, _, rfl, rfl, _, rfl, _, _, _, _, rfl, rfl, (SqL.of h3127), a3139, _, _, _, _, rfl, rfl, (SqL.of h3147), a3153, _, _, _, _, rfl, rfl, h3159, (ixN_map g3160), ?_⟩
                generalize g3161 : upd H3113 b3158 _ = H3162
                obtain ⟨x3163, h3164⟩ := gen_mut g3161
                have h3165 : H3162 b3158 = some (.lst ((setL ((itD ((itD (v3112) (0))) (0))) (0) ((top_2496 + 1)) : (List Int)).map V.int)) := set_map h3164
                have S3166 := S3130.mut1 x3163 (((fun b hb => (((fun b hb => (.tail _ (List.mem_append_left _ hb))) : ∀ b ∈ L3117, b ∈ (a3115 :: (L3117 ++ (p2462 :: (x2474 :: (D2534 :: (D2611 :: (D2826 :: (D2928 :: (a3064 :: (L3066 ++ []))))))))))) : ∀ b ∈ L3117, b ∈ (a3115 :: (L3117 ++ (p2462 :: (x2474 :: (D2534 :: (D2611 :: (D2826 :: (D2928 :: (a3064 :: (L3066 ++ []))))))))))) b ((fun c hc => hs3141 c (List.mem_cons_of_mem _ hc)) b hb)) : ∀ b ∈ L3146, b ∈ (a3115 :: (L3117 ++ (p2462 :: (x2474 :: (D2534 :: (D2611 :: (D2826 :: (D2928 :: (a3064 :: (L3066 ++ []))))))))))) _ (hs3155 _ List.mem_cons_self)) h3165
                have w3167 : OwAll G3118 H3162 L3146 (vs3145) ((setL ((itD (v3112) (0))) (0) (setL ((itD ((itD (v3112) (0))) (0))) (0) ((top_2496 + 1))) : (List (List Int))).map (oL oI)) := upd_tree up3156 x3163 List.mem_cons_self (Ow.ints h3165)
                have hw := cW_bnd hw
                have h3169 := (x3163 _ _ h3147 (nb3149 _ (hs3155 _ List.mem_cons_self)).symm)
                have w3170 : OwAll G3118 H3162 L3117 (vs3116) ((setL (v3112) (0) (setL ((itD (v3112) (0))) (0) (setL ((itD ((itD (v3112) (0))) (0))) (0) ((top_2496 + 1)))) : (List (List (List Int)))).map (oL (oL oI))) := upd_tree up3142 x3163 (List.mem_cons_of_mem _ (hs3155 _ List.mem_cons_self)) (Ow.list h3169 w3167 (nb3149 : ∀ b ∈ L3146, b ≠ b3144))
                have hw := cW_bnd hw
                refine ⟨_, rfl, rfl, rfl, G3118, _, _, rfl, S3166.sG, (Rp.hide_nil (rp_mk_list (S3166.sG _ _ (eG3122 _ _ (eG3111 _ _ (eG3071 _ _ hg3058)))) (RpAll.mono S3166.sG (RpAll.mono eG3122 (RpAll.mono eG3111 (RpAll.mono eG3071 d3059)))))), cW_call hw (fun v3172 hw H3173 a3175 vs3176 L3177 G3178 n3179 nb3180 nd3181 e3174 eG3182 sG3183 hn3184 ga3185 gL3186 h3187 w3188 => ?_) (fun e he => (hE e he).elim)⟩
                have fr3189 := S3166.free n3179
                have S3190 : Sep _ _ _ _ H3173 (a3175 :: (L3177 ++ (a3115 :: (L3117 ++ (p2462 :: (x2474 :: (D2534 :: (D2611 :: (D2826 :: (D2928 :: (a3064 :: (L3066 ++ [])))))))))))) := Sep.steptree S3166 e3174 eG3182 sG3183 hn3184 (a3175 :: L3177) (all_cons ⟨n3179, ga3185, some_ne h3187⟩ (fun b hb => ⟨nb3180 b hb, gL3186 b hb, OwAll.there w3188 b hb⟩))
                refine ⟨fun σ H' => ∃ (spoilt_3202 : (List (List (List Int)))) (vs3203 : List V) (L3204 : List Addr) (G' : Hp), σ = [some (V.ref a_script), some (V.ref p2462), some (V.int ((1 + (itD (v2459) (0))))), some (V.int ((1 + (itD (v2459) (1))))), some (V.ref x2474), some (V.int (top_2496)), some (V.int (count_2516)), some (V.ref D2534), some (V.ref D2611), some (V.ref a2815), some (V.ref D2826), some (V.ref D2928), some (V.ref a3038), some (V.ref a3064), some (V.ref a3115), some (V.ref a3175), none, none, none, none, none, none, none, none] ∧ Same G3178 G' ∧ Sep [] H H G' H' (p2462 :: (x2474 :: (D2534 :: (D2611 :: (D2826 :: (D2928 :: (a3064 :: (a3115 :: (a3175 :: (L3066 ++ (L3117 ++ (L3204 ++ [])))))))))))) ∧ H' p2462 = some (.lst ((v2459 : (List Int)).map V.int)) ∧ H' x2474 = some (.ins AD.c_Format dx2475 [("width", V.int (v2485.width)), ("height", V.int (v2485.height)), ("depth", V.int (v2485.depth)), ("chroma", V.int (v2485.chroma))]) ∧ H' D2534 = some (.lst (vs2595)) ∧ H' D2611 = some (.lst (vs2677)) ∧ H' D2826 = some (.lst (vs2911)) ∧ H' D2928 = some (.lst (vs3023)) ∧ H' a3064 = some (.lst (vs3065)) ∧ H' a3115 = some (.lst (vs3116)) ∧ H' a3175 = some (.lst (vs3203)) ∧ (∀ b ∈ L3204, b ≠ p2462) ∧ (∀ b ∈ L3204, b ≠ x2474) ∧ (∀ b ∈ L3204, b ≠ D2534) ∧ (∀ b ∈ L3204, b ≠ D2611) ∧ (∀ b ∈ L3204, b ≠ D2826) ∧ (∀ b ∈ L3204, b ≠ D2928) ∧ (∀ b ∈ L3204, b ≠ a3064) ∧ (∀ b ∈ L3204, b ≠ a3115) ∧ (∀ b ∈ L3204, b ≠ a3175) ∧ (∀ b ∈ L3204, b ∉ L3066) ∧ (∀ b ∈ L3204, b ∉ L3117) ∧ OwAll G' H' L3066 (vs3065) ((v3061 : (List (List (List Int)))).map (oL (oL oI))) ∧ OwAll G' H' L3117 (vs3116) ((setL (v3112) (0) (setL ((itD (v3112) (0))) (0) (setL ((itD ((itD (v3112) (0))) (0))) (0) ((top_2496 + 1)))) : (List (List (List Int)))).map (oL (oL oI))) ∧ OwAll G' H' L3204 (vs3203) ((spoilt_3202 : (List (List (List Int)))).map (oL (oL oI))) ∧ cW (F_law_k10 (v2459) (v2485) (count_2516) (acc2594) (frame_2695) (acc2910) (acc3022) (v3035) (v3061) (setL (v3112) (0) (setL ((itD (v3112) (0))) (0) (setL ((itD ((itD (v3112) (0))) (0))) (0) ((top_2496 + 1))))) spoilt_3202) KK EE, ?_, ?_⟩
                · obtain ⟨K3205, hK3206, hw⟩ := cW_push hw
                  obtain ⟨g3207, hw⟩ := cW_grd hw
                  obtain ⟨v3208, L3209, a3210, w3211, hs3212, up3213, gr3214⟩ := OwAll.partM (k := 0) w3188 g3207
                  obtain ⟨b3215, vs3216, L3217, rfl, rfl, h3218, w3219, nb3220⟩ := Ow.toList w3211
                  obtain ⟨g3221, hw⟩ := cW_grd hw
                  obtain ⟨v3222, L3223, a3224, w3225, hs3226, up3227, gr3228⟩ := OwAll.partM (k := 0) w3219 g3221
                  obtain ⟨b3229, rfl, rfl, h3230⟩ := Ow.toInts w3225
                  obtain ⟨g3231, hw⟩ := cW_grd hw
                  refine ⟨_, rfl, _, _, rfl, rfl, _, rfl, _, _, _, _, rfl, rfl, (SqL.of h3187), a3210, _, _, _, _, rfl, rfl, (SqL.of h3218), a3224, _, _, _, _, rfl, rfl, h3230, (ixN_map g3231), ?_⟩
                  generalize g3232 : upd H3173 b3229 _ = H3233
                  obtain ⟨x3234, h3235⟩ := gen_mut g3232
                  have h3236 : H3233 b3229 = some (.lst ((setL ((itD ((itD (v3172) (0))) (0))) (0) ((top_2496 + 1)) : (List Int)).map V.int)) := set_map h3235
                  have S3237 := S3190.mut1 x3234 (((fun b hb => (((fun b hb => (.tail _ (List.mem_append_left _ hb))) : ∀ b ∈ L3177, b ∈ (a3175 :: (L3177 ++ (a3115 :: (L3117 ++ (p2462 :: (x2474 :: (D2534 :: (D2611 :: (D2826 :: (D2928 :: (a3064 :: (L3066 ++ []))))))))))))) : ∀ b ∈ L3177, b ∈ (a3175 :: (L3177 ++ (a3115 :: (L3117 ++ (p2462 :: (x2474 :: (D2534 :: (D2611 :: (D2826 :: (D2928 :: (a3064 :: (L3066 ++ []))))))))))))) b ((fun c hc => hs3212 c (List.mem_cons_of_mem _ hc)) b hb)) : ∀ b ∈ L3217, b ∈ (a3175 :: (L3177 ++ (a3115 :: (L3117 ++ (p2462 :: (x2474 :: (D2534 :: (D2611 :: (D2826 :: (D2928 :: (a3064 :: (L3066 ++ []))))))))))))) _ (hs3226 _ List.mem_cons_self)) h3236
                  have w3238 : OwAll G3178 H3233 L3217 (vs3216) ((setL ((itD (v3172) (0))) (0) (setL ((itD ((itD (v3172) (0))) (0))) (0) ((top_2496 + 1))) : (List (List Int))).map (oL oI)) := upd_tree up3227 x3234 List.mem_cons_self (Ow.ints h3236)
                  have hw := cW_bnd hw
                  have h3240 := (x3234 _ _ h3218 (nb3220 _ (hs3226 _ List.mem_cons_self)).symm)
                  have w3241 : OwAll G3178 H3233 L3177 (vs3176) ((setL (v3172) (0) (setL ((itD (v3172) (0))) (0) (setL ((itD ((itD (v3172) (0))) (0))) (0) ((top_2496 + 1)))) : (List (List (List Int)))).map (oL (oL oI))) := upd_tree up3213 x3234 (List.mem_cons_of_mem _ (hs3226 _ List.mem_cons_self)) (Ow.list h3240 w3238 (nb3220 : ∀ b ∈ L3217, b ≠ b3215))
                  have hw := cW_bnd hw
                  have hw := cW_ok hw
                  have hw := hK3206 _ hw
                  have h3243 := (x3234 _ _ (e3174 _ _ (x3163 _ _ (e3114 _ _ h3102) ((((fun b hb => ((new_ne2 nb3120 (S3101.ow _ (.head _)).2.1) : ∀ b ∈ L3117, b ≠ p2462) b ((fun c hc => hs3141 c (List.mem_cons_of_mem _ hc)) b hb)) : ∀ b ∈ L3146, b ≠ p2462) _ (hs3155 _ List.mem_cons_self))).symm)) ((((fun b hb => ((new_ne2 nb3180 (S3166.ow _ (.tail _ (List.mem_append_right _ (.head _)))).2.1) : ∀ b ∈ L3177, b ≠ p2462) b ((fun c hc => hs3212 c (List.mem_cons_of_mem _ hc)) b hb)) : ∀ b ∈ L3217, b ≠ p2462) _ (hs3226 _ List.mem_cons_self))).symm)
                  have h3244 := (x3234 _ _ (e3174 _ _ (x3163 _ _ (e3114 _ _ h3103) ((((fun b hb => ((new_ne2 nb3120 (S3101.ow _ (.tail _ (.head _))).2.1) : ∀ b ∈ L3117, b ≠ x2474) b ((fun c hc => hs3141 c (List.mem_cons_of_mem _ hc)) b hb)) : ∀ b ∈ L3146, b ≠ x2474) _ (hs3155 _ List.mem_cons_self))).symm)) ((((fun b hb => ((new_ne2 nb3180 (S3166.ow _ (.tail _ (List.mem_append_right _ (.tail _ (.head _))))).2.1) : ∀ b ∈ L3177, b ≠ x2474) b ((fun c hc => hs3212 c (List.mem_cons_of_mem _ hc)) b hb)) : ∀ b ∈ L3217, b ≠ x2474) _ (hs3226 _ List.mem_cons_self))).symm)
                  have h3245 := (x3234 _ _ (e3174 _ _ (x3163 _ _ (e3114 _ _ h3104) ((((fun b hb => ((new_ne2 nb3120 (S3101.ow _ (.tail _ (.tail _ (.head _)))).2.1) : ∀ b ∈ L3117, b ≠ D2534) b ((fun c hc => hs3141 c (List.mem_cons_of_mem _ hc)) b hb)) : ∀ b ∈ L3146, b ≠ D2534) _ (hs3155 _ List.mem_cons_self))).symm)) ((((fun b hb => ((new_ne2 nb3180 (S3166.ow _ (.tail _ (List.mem_append_right _ (.tail _ (.tail _ (.head _)))))).2.1) : ∀ b ∈ L3177, b ≠ D2534) b ((fun c hc => hs3212 c (List.mem_cons_of_mem _ hc)) b hb)) : ∀ b ∈ L3217, b ≠ D2534) _ (hs3226 _ List.mem_cons_self))).symm)
                  have h3246 := (x3234 _ _ (e3174 _ _ (x3163 _ _ (e3114 _ _ h3105) ((((fun b hb => ((new_ne2 nb3120 (S3101.ow _ (.tail _ (.tail _ (.tail _ (.head _))))).2.1) : ∀ b ∈ L3117, b ≠ D2611) b ((fun c hc => hs3141 c (List.mem_cons_of_mem _ hc)) b hb)) : ∀ b ∈ L3146, b ≠ D2611) _ (hs3155 _ List.mem_cons_self))).symm)) ((((fun b hb => ((new_ne2 nb3180 (S3166.ow _ (.tail _ (List.mem_append_right _ (.tail _ (.tail _ (.tail _ (.head _))))))).2.1) : ∀ b ∈ L3177, b ≠ D2611) b ((fun c hc => hs3212 c (List.mem_cons_of_mem _ hc)) b hb)) : ∀ b ∈ L3217, b ≠ D2611) _ (hs3226 _ List.mem_cons_self))).symm)
                  have h3247 := (x3234 _ _ (e3174 _ _ (x3163 _ _ (e3114 _ _ h3106) ((((fun b hb => ((new_ne2 nb3120 (S3101.ow _ (.tail _ (.tail _ (.tail _ (.tail _ (.head _)))))).2.1) : ∀ b ∈ L3117, b ≠ D2826) b ((fun c hc => hs3141 c (List.mem_cons_of_mem _ hc)) b hb)) : ∀ b ∈ L3146, b ≠ D2826) _ (hs3155 _ List.mem_cons_self))).symm)) ((((fun b hb => ((new_ne2 nb3180 (S3166.ow _ (.tail _ (List.mem_append_right _ (.tail _ (.tail _ (.tail _ (.tail _ (.head _)))))))).2.1) : ∀ b ∈ L3177, b ≠ D2826) b ((fun c hc => hs3212 c (List.mem_cons_of_mem _ hc)) b hb)) : ∀ b ∈ L3217, b ≠ D2826) _ (hs3226 _ List.mem_cons_self))).symm)
                  have h3248 := (x3234 _ _ (e3174 _ _ (x3163 _ _ h3134 ((((fun b hb => ((new_ne2 nb3120 (S3101.ow _ (.tail _ (.tail _ (.tail _ (.tail _ (.tail _ (.head _))))))).2.1) : ∀ b ∈ L3117, b ≠ D2928) b ((fun c hc => hs3141 c (List.mem_cons_of_mem _ hc)) b hb)) : ∀ b ∈ L3146, b ≠ D2928) _ (hs3155 _ List.mem_cons_self))).symm)) ((((fun b hb => ((new_ne2 nb3180 (S3166.ow _ (.tail _ (List.mem_append_right _ (.tail _ (.tail _ (.tail _ (.tail _ (.tail _ (.head _))))))))).2.1) : ∀ b ∈ L3177, b ≠ D2928) b ((fun c hc => hs3212 c (List.mem_cons_of_mem _ hc)) b hb)) : ∀ b ∈ L3217, b ≠ D2928) _ (hs3226 _ List.mem_cons_self))).symm)
                  have h3249 := (x3234 _ _ (e3174 _ _ (x3163 _ _ h3132 ((((fun b hb => ((new_ne2 nb3120 (S3101.ow _ (.tail _ (.tail _ (.tail _ (.tail _ (.tail _ (.tail _ (.head _)))))))).2.1) : ∀ b ∈ L3117, b ≠ a3064) b ((fun c hc => hs3141 c (List.mem_cons_of_mem _ hc)) b hb)) : ∀ b ∈ L3146, b ≠ a3064) _ (hs3155 _ List.mem_cons_self))).symm)) ((((fun b hb => ((new_ne2 nb3180 (S3166.ow _ (.tail _ (List.mem_append_right _ (.tail _ (.tail _ (.tail _ (.tail _ (.tail _ (.tail _ (.head _)))))))))).2.1) : ∀ b ∈ L3177, b ≠ a3064) b ((fun c hc => hs3212 c (List.mem_cons_of_mem _ hc)) b hb)) : ∀ b ∈ L3217, b ≠ a3064) _ (hs3226 _ List.mem_cons_self))).symm)
                  have h3250 := (x3234 _ _ (e3174 _ _ (x3163 _ _ h3127 ((((fun b hb => (nd3121 : ∀ b ∈ L3117, b ≠ a3115) b ((fun c hc => hs3141 c (List.mem_cons_of_mem _ hc)) b hb)) : ∀ b ∈ L3146, b ≠ a3115) _ (hs3155 _ List.mem_cons_self))).symm)) ((((fun b hb => ((new_ne2 nb3180 (S3166.ow _ (.head _)).2.1) : ∀ b ∈ L3177, b ≠ a3115) b ((fun c hc => hs3212 c (List.mem_cons_of_mem _ hc)) b hb)) : ∀ b ∈ L3217, b ≠ a3115) _ (hs3226 _ List.mem_cons_self))).symm)
                  have h3251 := (x3234 _ _ h3187 ((((fun b hb => (nd3181 : ∀ b ∈ L3177, b ≠ a3175) b ((fun c hc => hs3212 c (List.mem_cons_of_mem _ hc)) b hb)) : ∀ b ∈ L3217, b ≠ a3175) _ (hs3226 _ List.mem_cons_self))).symm)
                  have w3252 : OwAll G3178 H3233 L3066 (vs3065) ((v3061 : (List (List (List Int)))).map (oL (oL oI))) := (OwAll.mono eG3182 keeps_refl (OwAll.mono (Same.refl _) (keeps_mut x3234 ((fun b hb z => (fun b hb => ((nl_symm (fun c hc => ((new_nl nb3180 (fun b_ hb_ => (S3166.ow b_ (((fun b hb => (.tail _ (List.mem_append_right _ (.tail _ (.tail _ (.tail _ (.tail _ (.tail _ (.tail _ (.tail _ (List.mem_append_left _ hb))))))))))) : ∀ b ∈ L3066, b ∈ (a3115 :: (L3117 ++ (p2462 :: (x2474 :: (D2534 :: (D2611 :: (D2826 :: (D2928 :: (a3064 :: (L3066 ++ []))))))))))) b_ hb_)).2.1)) : ∀ c ∈ L3177, c ∉ L3066) c ((fun c hc => hs3212 c (List.mem_cons_of_mem _ hc)) c hc))) b hb)) b hb (z ▸ (hs3226 _ List.mem_cons_self))) : ∀ b ∈ L3066, b ≠ b3229)) (OwAll.mono (Same.refl _) (keeps_same e3174) (OwAll.mono (Same.refl _) (keeps_mut x3163 ((fun b hb z => (fun b hb => ((nl_symm (fun c hc => ((new_nl nb3120 (fun b_ hb_ => (S3101.ow b_ (((fun b hb => (.tail _ (.tail _ (.tail _ (.tail _ (.tail _ (.tail _ (.tail _ (List.mem_append_left _ hb))))))))) : ∀ b ∈ L3066, b ∈ (p2462 :: (x2474 :: (D2534 :: (D2611 :: (D2826 :: (D2928 :: (a3064 :: (L3066 ++ []))))))))) b_ hb_)).2.1)) : ∀ c ∈ L3117, c ∉ L3066) c ((fun c hc => hs3141 c (List.mem_cons_of_mem _ hc)) c hc))) b hb)) b hb (z ▸ (hs3155 _ List.mem_cons_self))) : ∀ b ∈ L3066, b ≠ b3158)) w3133))))
                  have w3253 : OwAll G3178 H3233 L3117 (vs3116) ((setL (v3112) (0) (setL ((itD (v3112) (0))) (0) (setL ((itD ((itD (v3112) (0))) (0))) (0) ((top_2496 + 1)))) : (List (List (List Int)))).map (oL (oL oI))) := (OwAll.mono eG3182 keeps_refl (OwAll.mono (Same.refl _) (keeps_mut x3234 ((fun b hb z => (fun b hb => ((nl_symm (fun c hc => ((new_nl nb3180 (fun b_ hb_ => (S3166.ow b_ (((fun b hb => (.tail _ (List.mem_append_left _ hb))) : ∀ b ∈ L3117, b ∈ (a3115 :: (L3117 ++ (p2462 :: (x2474 :: (D2534 :: (D2611 :: (D2826 :: (D2928 :: (a3064 :: (L3066 ++ []))))))))))) b_ hb_)).2.1)) : ∀ c ∈ L3177, c ∉ L3117) c ((fun c hc => hs3212 c (List.mem_cons_of_mem _ hc)) c hc))) b hb)) b hb (z ▸ (hs3226 _ List.mem_cons_self))) : ∀ b ∈ L3117, b ≠ b3229)) (OwAll.mono (Same.refl _) (keeps_same e3174) w3170)))
                  exact ⟨(setL (v3172) (0) (setL ((itD (v3172) (0))) (0) (setL ((itD ((itD (v3172) (0))) (0))) (0) ((top_2496 + 1))))), (vs3176), L3177, _, rfl, (Same.refl _), (S3237.sub (all_cons (.tail _ (List.mem_append_right _ (.tail _ (List.mem_append_right _ (.head _))))) (all_cons (.tail _ (List.mem_append_right _ (.tail _ (List.mem_append_right _ (.tail _ (.head _)))))) (all_cons (.tail _ (List.mem_append_right _ (.tail _ (List.mem_append_right _ (.tail _ (.tail _ (.head _))))))) (all_cons (.tail _ (List.mem_append_right _ (.tail _ (List.mem_append_right _ (.tail _ (.tail _ (.tail _ (.head _)))))))) (all_cons (.tail _ (List.mem_append_right _ (.tail _ (List.mem_append_right _ (.tail _ (.tail _ (.tail _ (.tail _ (.head _))))))))) (all_cons (.tail _ (List.mem_append_right _ (.tail _ (List.mem_append_right _ (.tail _ (.tail _ (.tail _ (.tail _ (.tail _ (.head _)))))))))) (all_cons (.tail _ (List.mem_append_right _ (.tail _ (List.mem_append_right _ (.tail _ (.tail _ (.tail _ (.tail _ (.tail _ (.tail _ (.head _))))))))))) (all_cons (.tail _ (List.mem_append_right _ (.head _))) (all_cons (.head _) (all_app ((fun b hb => (.tail _ (List.mem_append_right _ (.tail _ (List.mem_append_right _ (.tail _ (.tail _ (.tail _ (.tail _ (.tail _ (.tail _ (.tail _ (List.mem_append_left _ hb))))))))))))) : ∀ b ∈ L3066, b ∈ (a3175 :: (L3177 ++ (a3115 :: (L3117 ++ (p2462 :: (x2474 :: (D2534 :: (D2611 :: (D2826 :: (D2928 :: (a3064 :: (L3066 ++ []))))))))))))) (all_app ((fun b hb => (.tail _ (List.mem_append_right _ (.tail _ (List.mem_append_left _ hb))))) : ∀ b ∈ L3117, b ∈ (a3175 :: (L3177 ++ (a3115 :: (L3117 ++ (p2462 :: (x2474 :: (D2534 :: (D2611 :: (D2826 :: (D2928 :: (a3064 :: (L3066 ++ []))))))))))))) (all_app ((fun b hb => (.tail _ (List.mem_append_left _ hb))) : ∀ b ∈ L3177, b ∈ (a3175 :: (L3177 ++ (a3115 :: (L3117 ++ (p2462 :: (x2474 :: (D2534 :: (D2611 :: (D2826 :: (D2928 :: (a3064 :: (L3066 ++ []))))))))))))) all_nil))))))))))))), h3243, h3244, h3245, h3246, h3247, h3248, h3249, h3250, h3251, (new_ne2 nb3180 (S3166.ow _ (.tail _ (List.mem_append_right _ (.head _)))).2.1), (new_ne2 nb3180 (S3166.ow _ (.tail _ (List.mem_append_right _ (.tail _ (.head _))))).2.1), (new_ne2 nb3180 (S3166.ow _ (.tail _ (List.mem_append_right _ (.tail _ (.tail _ (.head _)))))).2.1), (new_ne2 nb3180 (S3166.ow _ (.tail _ (List.mem_append_right _ (.tail _ (.tail _ (.tail _ (.head _))))))).2.1), (new_ne2 nb3180 (S3166.ow _ (.tail _ (List.mem_append_right _ (.tail _ (.tail _ (.tail _ (.tail _ (.head _)))))))).2.1), (new_ne2 nb3180 (S3166.ow _ (.tail _ (List.mem_append_right _ (.tail _ (.tail _ (.tail _ (.tail _ (.tail _ (.head _))))))))).2.1), (new_ne2 nb3180 (S3166.ow _ (.tail _ (List.mem_append_right _ (.tail _ (.tail _ (.tail _ (.tail _ (.tail _ (.tail _ (.head _)))))))))).2.1), (new_ne2 nb3180 (S3166.ow _ (.head _)).2.1), nd3181, (new_nl nb3180 (fun b_ hb_ => (S3166.ow b_ (((fun b hb => (.tail _ (List.mem_append_right _ (.tail _ (.tail _ (.tail _ (.tail _ (.tail _ (.tail _ (.tail _ (List.mem_append_left _ hb))))))))))) : ∀ b ∈ L3066, b ∈ (a3115 :: (L3117 ++ (p2462 :: (x2474 :: (D2534 :: (D2611 :: (D2826 :: (D2928 :: (a3064 :: (L3066 ++ []))))))))))) b_ hb_)).2.1)), (new_nl nb3180 (fun b_ hb_ => (S3166.ow b_ (((fun b hb => (.tail _ (List.mem_append_left _ hb))) : ∀ b ∈ L3117, b ∈ (a3115 :: (L3117 ++ (p2462 :: (x2474 :: (D2534 :: (D2611 :: (D2826 :: (D2928 :: (a3064 :: (L3066 ++ []))))))))))) b_ hb_)).2.1)), w3252, w3253, w3241, hw⟩
                · intro σ H3254 hw
                  obtain ⟨spoilt_3202, vs3203, L3204, G3279, rfl, eG3280, S3255, h3256, h3257, h3258, h3259, h3260, h3261, h3262, h3263, h3264, ne3265, ne3266, ne3267, ne3268, ne3269, ne3270, ne3271, ne3272, ne3273, ne3274, ne3275, w3276, w3277, w3278, hw⟩ := hw
                  unfold F_law_k10 at hw
                  refine ⟨_, rfl, rfl, rfl, G3279, _, _, rfl, S3255.sG, (Rp.hide_nil (rp_mk_list h3261 (RpAll.mono S3255.sG (RpAll.mono eG3280 (RpAll.mono eG3182 (RpAll.mono eG3122 (RpAll.mono eG3111 (RpAll.mono eG3071 (RpAll.mono eG3055 (RpAll.mono eG3045 d3024)))))))))), cW_call hw (fun v3281 hw H3282 a3284 vs3285 L3286 G3287 n3288 nb3289 nd3290 e3283 eG3291 sG3292 hn3293 ga3294 gL3295 h3296 w3297 => ?_) (fun e he => (hE e he).elim)⟩
                  have fr3298 := S3255.free n3288
                  have S3299 : Sep _ _ _ _ H3282 (a3284 :: (L3286 ++ (p2462 :: (x2474 :: (D2534 :: (D2611 :: (D2826 :: (D2928 :: (a3064 :: (a3115 :: (a3175 :: (L3066 ++ (L3117 ++ (L3204 ++ [])))))))))))))) := Sep.steptree S3255 e3283 eG3291 sG3292 hn3293 (a3284 :: L3286) (all_cons ⟨n3288, ga3294, some_ne h3296⟩ (fun b hb => ⟨nb3289 b hb, gL3295 b hb, OwAll.there w3297 b hb⟩))
                  obtain ⟨g3300, hw⟩ := cW_grd hw
                  obtain ⟨K3311, hK3312, hw⟩ := cW_push hw
                  refine ⟨_, rfl, _, rfl, g3300.1, g3300.2, for_range (lo := 0) (n := Int.toNat (count_2516)) (fun i σ H' => ∃ (actual_3313 : (List (List (List Int)))) (vs3314 : List V) (L3315 : List Addr) (longer_3316 : (List (List (List Int)))) (vs3317 : List V) (L3318 : List Addr) (u3319 : Option V) (u3320 : Option V) (G' : Hp), σ = [some (V.ref a_script), some (V.ref p2462), some (V.int ((1 + (itD (v2459) (0))))), some (V.int ((1 + (itD (v2459) (1))))), some (V.ref x2474), some (V.int (top_2496)), some (V.int (count_2516)), some (V.ref D2534), some (V.ref D2611), some (V.ref a2815), some (V.ref D2826), some (V.ref D2928), some (V.ref a3038), some (V.ref a3064), some (V.ref a3115), some (V.ref a3175), some (V.ref a3284), u3319, u3320, none, none, none, none, none] ∧ Same G3287 G' ∧ Sep [] H H G' H' (p2462 :: (x2474 :: (D2534 :: (D2611 :: (D2826 :: (D2928 :: (a3064 :: (a3115 :: (a3175 :: (a3284 :: (L3315 ++ (L3117 ++ (L3204 ++ (L3318 ++ [])))))))))))))) ∧ H' p2462 = some (.lst ((v2459 : (List Int)).map V.int)) ∧ H' x2474 = some (.ins AD.c_Format dx2475 [("width", V.int (v2485.width)), ("height", V.int (v2485.height)), ("depth", V.int (v2485.depth)), ("chroma", V.int (v2485.chroma))]) ∧ H' D2534 = some (.lst (vs2595)) ∧ H' D2611 = some (.lst (vs2677)) ∧ H' D2826 = some (.lst (vs2911)) ∧ H' D2928 = some (.lst (vs3023)) ∧ H' a3064 = some (.lst (vs3314)) ∧ H' a3115 = some (.lst (vs3116)) ∧ H' a3175 = some (.lst (vs3203)) ∧ H' a3284 = some (.lst (vs3317)) ∧ (∀ b ∈ L3315, b ≠ p2462) ∧ (∀ b ∈ L3315, b ≠ x2474) ∧ (∀ b ∈ L3315, b ≠ D2534) ∧ (∀ b ∈ L3315, b ≠ D2611) ∧ (∀ b ∈ L3315, b ≠ D2826) ∧ (∀ b ∈ L3315, b ≠ D2928) ∧ (∀ b ∈ L3315, b ≠ a3064) ∧ (∀ b ∈ L3315, b ≠ a3115) ∧ (∀ b ∈ L3315, b ≠ a3175) ∧ (∀ b ∈ L3315, b ≠ a3284) ∧ (∀ b ∈ L3315, b ∉ L3117) ∧ (∀ b ∈ L3315, b ∉ L3204) ∧ (∀ b ∈ L3315, b ∉ L3318) ∧ (∀ b ∈ L3318, b ≠ p2462) ∧ (∀ b ∈ L3318, b ≠ x2474) ∧ (∀ b ∈ L3318, b ≠ D2534) ∧ (∀ b ∈ L3318, b ≠ D2611) ∧ (∀ b ∈ L3318, b ≠ D2826) ∧ (∀ b ∈ L3318, b ≠ D2928) ∧ (∀ b ∈ L3318, b ≠ a3064) ∧ (∀ b ∈ L3318, b ≠ a3115) ∧ (∀ b ∈ L3318, b ≠ a3175) ∧ (∀ b ∈ L3318, b ≠ a3284) ∧ (∀ b ∈ L3318, b ∉ L3117) ∧ (∀ b ∈ L3318, b ∉ L3204) ∧ OwAll G' H' L3315 (vs3314) ((actual_3313 : (List (List (List Int)))).map (oL (oL oI))) ∧ OwAll G' H' L3117 (vs3116) ((setL (v3112) (0) (setL ((itD (v3112) (0))) (0) (setL ((itD ((itD (v3112) (0))) (0))) (0) ((top_2496 + 1)))) : (List (List (List Int)))).map (oL (oL oI))) ∧ OwAll G' H' L3204 (vs3203) ((spoilt_3202 : (List (List (List Int)))).map (oL (oL oI))) ∧ OwAll G' H' L3318 (vs3317) ((longer_3316 : (List (List (List Int)))).map (oL (oL oI))) ∧ cW (forS (List.drop i (rng (0) (Int.toNat (count_2516)))) (actual_3313, longer_3316) (fun s x => F_law_b11  (s.1) (s.2) x)) K3311 EE) ?_ ?_ ?_⟩
                  · have h3321 := (e3283 _ _ h3256)
                    have h3322 := (e3283 _ _ h3257)
                    have h3323 := (e3283 _ _ h3258)
                    have h3324 := (e3283 _ _ h3259)
                    have h3325 := (e3283 _ _ h3260)
                    have h3326 := (e3283 _ _ h3261)
                    have h3327 := (e3283 _ _ h3262)
                    have h3328 := (e3283 _ _ h3263)
                    have h3329 := (e3283 _ _ h3264)
                    have w3330 : OwAll G3287 H3282 L3066 (vs3065) ((v3061 : (List (List (List Int)))).map (oL (oL oI))) := (OwAll.mono eG3291 keeps_refl (OwAll.mono (Same.refl _) (keeps_same e3283) w3276))
                    have w3331 : OwAll G3287 H3282 L3117 (vs3116) ((setL (v3112) (0) (setL ((itD (v3112) (0))) (0) (setL ((itD ((itD (v3112) (0))) (0))) (0) ((top_2496 + 1)))) : (List (List (List Int)))).map (oL (oL oI))) := (OwAll.mono eG3291 keeps_refl (OwAll.mono (Same.refl _) (keeps_same e3283) w3277))
                    have w3332 : OwAll G3287 H3282 L3204 (vs3203) ((spoilt_3202 : (List (List (List Int)))).map (oL (oL oI))) := (OwAll.mono eG3291 keeps_refl (OwAll.mono (Same.refl _) (keeps_same e3283) w3278))
                    exact ⟨(v3061), (vs3065), L3066, (v3281), (vs3285), L3286, _, _, _, rfl, (Same.refl _), (S3299.sub (all_cons (.tail _ (List.mem_append_right _ (.head _))) (all_cons (.tail _ (List.mem_append_right _ (.tail _ (.head _)))) (all_cons (.tail _ (List.mem_append_right _ (.tail _ (.tail _ (.head _))))) (all_cons (.tail _ (List.mem_append_right _ (.tail _ (.tail _ (.tail _ (.head _)))))) (all_cons (.tail _ (List.mem_append_right _ (.tail _ (.tail _ (.tail _ (.tail _ (.head _))))))) (all_cons (.tail _ (List.mem_append_right _ (.tail _ (.tail _ (.tail _ (.tail _ (.tail _ (.head _)))))))) (all_cons (.tail _ (List.mem_append_right _ (.tail _ (.tail _ (.tail _ (.tail _ (.tail _ (.tail _ (.head _))))))))) (all_cons (.tail _ (List.mem_append_right _ (.tail _ (.tail _ (.tail _ (.tail _ (.tail _ (.tail _ (.tail _ (.head _)))))))))) (all_cons (.tail _ (List.mem_append_right _ (.tail _ (.tail _ (.tail _ (.tail _ (.tail _ (.tail _ (.tail _ (.tail _ (.head _))))))))))) (all_cons (.head _) (all_app ((fun b hb => (.tail _ (List.mem_append_right _ (.tail _ (.tail _ (.tail _ (.tail _ (.tail _ (.tail _ (.tail _ (.tail _ (.tail _ (List.mem_append_left _ hb))))))))))))) : ∀ b ∈ L3066, b ∈ (a3284 :: (L3286 ++ (p2462 :: (x2474 :: (D2534 :: (D2611 :: (D2826 :: (D2928 :: (a3064 :: (a3115 :: (a3175 :: (L3066 ++ (L3117 ++ (L3204 ++ []))))))))))))))) (all_app ((fun b hb => (.tail _ (List.mem_append_right _ (.tail _ (.tail _ (.tail _ (.tail _ (.tail _ (.tail _ (.tail _ (.tail _ (.tail _ (List.mem_append_right _ (List.mem_append_left _ hb)))))))))))))) : ∀ b ∈ L3117, b ∈ (a3284 :: (L3286 ++ (p2462 :: (x2474 :: (D2534 :: (D2611 :: (D2826 :: (D2928 :: (a3064 :: (a3115 :: (a3175 :: (L3066 ++ (L3117 ++ (L3204 ++ []))))))))))))))) (all_app ((fun b hb => (.tail _ (List.mem_append_right _ (.tail _ (.tail _ (.tail _ (.tail _ (.tail _ (.tail _ (.tail _ (.tail _ (.tail _ (List.mem_append_right _ (List.mem_append_right _ (List.mem_append_left _ hb))))))))))))))) : ∀ b ∈ L3204, b ∈ (a3284 :: (L3286 ++ (p2462 :: (x2474 :: (D2534 :: (D2611 :: (D2826 :: (D2928 :: (a3064 :: (a3115 :: (a3175 :: (L3066 ++ (L3117 ++ (L3204 ++ []))))))))))))))) (all_app ((fun b hb => (.tail _ (List.mem_append_left _ hb))) : ∀ b ∈ L3286, b ∈ (a3284 :: (L3286 ++ (p2462 :: (x2474 :: (D2534 :: (D2611 :: (D2826 :: (D2928 :: (a3064 :: (a3115 :: (a3175 :: (L3066 ++ (L3117 ++ (L3204 ++ []))))))))))))))) all_nil))))))))))))))), h3321, h3322, h3323, h3324, h3325, h3326, h3327, h3328, h3329, h3296, (new_ne2 nb3069 (S3057.ow _ (.tail _ (.head _))).2.1), (new_ne2 nb3069 (S3057.ow _ (.tail _ (.tail _ (.head _)))).2.1), (new_ne2 nb3069 (S3057.ow _ (.tail _ (.tail _ (.tail _ (.head _))))).2.1), (new_ne2 nb3069 (S3057.ow _ (.tail _ (.tail _ (.tail _ (.tail _ (.head _)))))).2.1), (new_ne2 nb3069 (S3057.ow _ (.tail _ (.tail _ (.tail _ (.tail _ (.tail _ (.head _))))))).2.1), (new_ne2 nb3069 (S3057.ow _ (.head _)).2.1), nd3070, (there_ne (fun b_ hb_ => (S3101.ow b_ (((fun b hb => (.tail _ (.tail _ (.tail _ (.tail _ (.tail _ (.tail _ (.tail _ (List.mem_append_left _ hb))))))))) : ∀ b ∈ L3066, b ∈ (p2462 :: (x2474 :: (D2534 :: (D2611 :: (D2826 :: (D2928 :: (a3064 :: (L3066 ++ []))))))))) b_ hb_)).2.1) n3119), (there_ne (fun b_ hb_ => (S3166.ow b_ (((fun b hb => (.tail _ (List.mem_append_right _ (.tail _ (.tail _ (.tail _ (.tail _ (.tail _ (.tail _ (.tail _ (List.mem_append_left _ hb))))))))))) : ∀ b ∈ L3066, b ∈ (a3115 :: (L3117 ++ (p2462 :: (x2474 :: (D2534 :: (D2611 :: (D2826 :: (D2928 :: (a3064 :: (L3066 ++ []))))))))))) b_ hb_)).2.1) n3179), (there_ne (fun b_ hb_ => (S3255.ow b_ (((fun b hb => (.tail _ (.tail _ (.tail _ (.tail _ (.tail _ (.tail _ (.tail _ (.tail _ (.tail _ (List.mem_append_left _ hb))))))))))) : ∀ b ∈ L3066, b ∈ (p2462 :: (x2474 :: (D2534 :: (D2611 :: (D2826 :: (D2928 :: (a3064 :: (a3115 :: (a3175 :: (L3066 ++ (L3117 ++ (L3204 ++ []))))))))))))) b_ hb_)).2.1) n3288), (nl_symm (new_nl nb3120 (fun b_ hb_ => (S3101.ow b_ (((fun b hb => (.tail _ (.tail _ (.tail _ (.tail _ (.tail _ (.tail _ (.tail _ (List.mem_append_left _ hb))))))))) : ∀ b ∈ L3066, b ∈ (p2462 :: (x2474 :: (D2534 :: (D2611 :: (D2826 :: (D2928 :: (a3064 :: (L3066 ++ []))))))))) b_ hb_)).2.1))), (nl_symm ne3274), (fun b hb => ((nl_symm (new_nl nb3289 (fun b_ hb_ => (S3255.ow b_ (((fun b hb => (.tail _ (.tail _ (.tail _ (.tail _ (.tail _ (.tail _ (.tail _ (.tail _ (.tail _ (List.mem_append_left _ hb))))))))))) : ∀ b ∈ L3066, b ∈ (p2462 :: (x2474 :: (D2534 :: (D2611 :: (D2826 :: (D2928 :: (a3064 :: (a3115 :: (a3175 :: (L3066 ++ (L3117 ++ (L3204 ++ []))))))))))))) b_ hb_)).2.1))) b hb)), (new_ne2 nb3289 (S3255.ow _ (.head _)).2.1), (new_ne2 nb3289 (S3255.ow _ (.tail _ (.head _))).2.1), (new_ne2 nb3289 (S3255.ow _ (.tail _ (.tail _ (.head _)))).2.1), (new_ne2 nb3289 (S3255.ow _ (.tail _ (.tail _ (.tail _ (.head _))))).2.1), (new_ne2 nb3289 (S3255.ow _ (.tail _ (.tail _ (.tail _ (.tail _ (.head _)))))).2.1), (new_ne2 nb3289 (S3255.ow _ (.tail _ (.tail _ (.tail _ (.tail _ (.tail _ (.head _))))))).2.1), (new_ne2 nb3289 (S3255.ow _ (.tail _ (.tail _ (.tail _ (.tail _ (.tail _ (.tail _ (.head _)))))))).2.1), (new_ne2 nb3289 (S3255.ow _ (.tail _ (.tail _ (.tail _ (.tail _ (.tail _ (.tail _ (.tail _ (.head _))))))))).2.1), (new_ne2 nb3289 (S3255.ow _ (.tail _ (.tail _ (.tail _ (.tail _ (.tail _ (.tail _ (.tail _ (.tail _ (.head _)))))))))).2.1), nd3290, (new_nl nb3289 (fun b_ hb_ => (S3255.ow b_ (((fun b hb => (.tail _ (.tail _ (.tail _ (.tail _ (.tail _ (.tail _ (.tail _ (.tail _ (.tail _ (List.mem_append_right _ (List.mem_append_left _ hb)))))))))))) : ∀ b ∈ L3117, b ∈ (p2462 :: (x2474 :: (D2534 :: (D2611 :: (D2826 :: (D2928 :: (a3064 :: (a3115 :: (a3175 :: (L3066 ++ (L3117 ++ (L3204 ++ []))))))))))))) b_ hb_)).2.1)), (new_nl nb3289 (fun b_ hb_ => (S3255.ow b_ (((fun b hb => (.tail _ (.tail _ (.tail _ (.tail _ (.tail _ (.tail _ (.tail _ (.tail _ (.tail _ (List.mem_append_right _ (List.mem_append_right _ (List.mem_append_left _ hb))))))))))))) : ∀ b ∈ L3204, b ∈ (p2462 :: (x2474 :: (D2534 :: (D2611 :: (D2826 :: (D2928 :: (a3064 :: (a3115 :: (a3175 :: (L3066 ++ (L3117 ++ (L3204 ++ []))))))))))))) b_ hb_)).2.1)), w3330, w3331, w3332, w3297, hw⟩
                  · intro i σ H3333 hi hw
                    obtain ⟨actual_3313, vs3314, L3315, longer_3316, vs3317, L3318, u3319, u3320, G3374, rfl, eG3375, S3334, h3335, h3336, h3337, h3338, h3339, h3340, h3341, h3342, h3343, h3344, ne3345, ne3346, ne3347, ne3348, ne3349, ne3350, ne3351, ne3352, ne3353, ne3354, ne3355, ne3356, ne3357, ne3358, ne3359, ne3360, ne3361, ne3362, ne3363, ne3364, ne3365, ne3366, ne3367, ne3368, ne3369, w3370, w3371, w3372, w3373, hw⟩ := hw
                    have hw := cW_forS (rng_get hi) hw
                    generalize (0 + (i : Int)) = x3376 at hw ⊢
                    have hw : cW (F_law_b11  (actual_3313) (longer_3316) (x3376)) _ EE := hw
                    unfold F_law_b11 at hw
                    obtain ⟨K3379, hK3380, hw⟩ := cW_name hw
                    obtain ⟨g3382, hw⟩ := cW_grd hw
                    obtain ⟨v3383, L3384, a3385, w3386, hs3387, up3388, gr3389⟩ := OwAll.partM (k := x3376) w3373 g3382
                    obtain ⟨b3390, vs3391, L3392, rfl, rfl, h3393, w3394, nb3395⟩ := Ow.toList w3386
                    obtain ⟨g3396, hw⟩ := cW_grd hw
                    obtain ⟨K3399, hK3400, hw⟩ := cW_push hw
                    refine ⟨_, rfl, _, rfl, _, _, _, _, rfl, rfl, (SqL.of h3344), a3385, _, _, _, rfl, (SqL.of h3393), (by rw [(OwAll.rpA w3394 (encO_L encO_I) S3334.sG).len, List.length_map]), _, rfl, g3396.1, g3396.2, for_range (lo := 0) (n := Int.toNat (((((itD (longer_3316) (x3376))) : (List (List Int))).length : Int))) (fun i σ H' => ∃ (actual_3401 : (List (List (List Int)))) (vs3402 : List V) (L3403 : List Addr) (longer_3404 : (List (List (List Int)))) (vs3405 : List V) (L3406 : List Addr) (u3407 : Option V) (G' : Hp), σ = [some (V.ref a_script), some (V.ref p2462), some (V.int ((1 + (itD (v2459) (0))))), some (V.int ((1 + (itD (v2459) (1))))), some (V.ref x2474), some (V.int (top_2496)), some (V.int (count_2516)), some (V.ref D2534), some (V.ref D2611), some (V.ref a2815), some (V.ref D2826), some (V.ref D2928), some (V.ref a3038), some (V.ref a3064), some (V.ref a3115), some (V.ref a3175), some (V.ref a3284), some (V.int (x3376)), u3407, none, none, none, none, none] ∧ Same G3374 G' ∧ Sep [] H H G' H' (p2462 :: (x2474 :: (D2534 :: (D2611 :: (D2826 :: (D2928 :: (a3064 :: (a3115 :: (a3175 :: (a3284 :: (L3403 ++ (L3117 ++ (L3204 ++ (L3406 ++ [])))))))))))))) ∧ H' p2462 = some (.lst ((v2459 : (List Int)).map V.int)) ∧ H' x2474 = some (.ins AD.c_Format dx2475 [("width", V.int (v2485.width)), ("height", V.int (v2485.height)), ("depth", V.int (v2485.depth)), ("chroma", V.int (v2485.chroma))]) ∧ H' D2534 = some (.lst (vs2595)) ∧ H' D2611 = some (.lst (vs2677)) ∧ H' D2826 = some (.lst (vs2911)) ∧ H' D2928 = some (.lst (vs3023)) ∧ H' a3064 = some (.lst (vs3402)) ∧ H' a3115 = some (.lst (vs3116)) ∧ H' a3175 = some (.lst (vs3203)) ∧ H' a3284 = some (.lst (vs3405)) ∧ (∀ b ∈ L3403, b ≠ p2462) ∧ (∀ b ∈ L3403, b ≠ x2474) ∧ (∀ b ∈ L3403, b ≠ D2534) ∧ (∀ b ∈ L3403, b ≠ D2611) ∧ (∀ b ∈ L3403, b ≠ D2826) ∧ (∀ b ∈ L3403, b ≠ D2928) ∧ (∀ b ∈ L3403, b ≠ a3064) ∧ (∀ b ∈ L3403, b ≠ a3115) ∧ (∀ b ∈ L3403, b ≠ a3175) ∧ (∀ b ∈ L3403, b ≠ a3284) ∧ (∀ b ∈ L3403, b ∉ L3117) ∧ (∀ b ∈ L3403, b ∉ L3204) ∧ (∀ b ∈ L3403, b ∉ L3406) ∧ (∀ b ∈ L3406, b ≠ p2462) ∧ (∀ b ∈ L3406, b ≠ x2474) ∧ (∀ b ∈ L3406, b ≠ D2534) ∧ (∀ b ∈ L3406, b ≠ D2611) ∧ (∀ b ∈ L3406, b ≠ D2826) ∧ (∀ b ∈ L3406, b ≠ D2928) ∧ (∀ b ∈ L3406, b ≠ a3064) ∧ (∀ b ∈ L3406, b ≠ a3115) ∧ (∀ b ∈ L3406, b ≠ a3175) ∧ (∀ b ∈ L3406, b ≠ a3284) ∧ (∀ b ∈ L3406, b ∉ L3117) ∧ (∀ b ∈ L3406, b ∉ L3204) ∧ OwAll G' H' L3403 (vs3402) ((actual_3401 : (List (List (List Int)))).map (oL (oL oI))) ∧ OwAll G' H' L3117 (vs3116) ((setL (v3112) (0) (setL ((itD (v3112) (0))) (0) (setL ((itD ((itD (v3112) (0))) (0))) (0) ((top_2496 + 1)))) : (List (List (List Int)))).map (oL (oL oI))) ∧ OwAll G' H' L3204 (vs3203) ((spoilt_3202 : (List (List (List Int)))).map (oL (oL oI))) ∧ OwAll G' H' L3406 (vs3405) ((longer_3404 : (List (List (List Int)))).map (oL (oL oI))) ∧ cW (forS (List.drop i (rng (0) (Int.toNat (((((itD (longer_3316) (x3376))) : (List (List Int))).length : Int))))) (actual_3401, longer_3404) (fun s x => F_law_b12 (x3376) (s.1) (s.2) x)) K3399 EE) ?_ ?_ ?_⟩
                    · exact ⟨(actual_3313), (vs3314), L3315, (longer_3316), (vs3317), L3318, _, _, rfl, (Same.refl _), (S3334.sub (all_cons (.head _) (all_cons (.tail _ (.head _)) (all_cons (.tail _ (.tail _ (.head _))) (all_cons (.tail _ (.tail _ (.tail _ (.head _)))) (all_cons (.tail _ (.tail _ (.tail _ (.tail _ (.head _))))) (all_cons (.tail _ (.tail _ (.tail _ (.tail _ (.tail _ (.head _)))))) (all_cons (.tail _ (.tail _ (.tail _ (.tail _ (.tail _ (.tail _ (.head _))))))) (all_cons (.tail _ (.tail _ (.tail _ (.tail _ (.tail _ (.tail _ (.tail _ (.head _)))))))) (all_cons (.tail _ (.tail _ (.tail _ (.tail _ (.tail _ (.tail _ (.tail _ (.tail _ (.head _))))))))) (all_cons (.tail _ (.tail _ (.tail _ (.tail _ (.tail _ (.tail _ (.tail _ (.tail _ (.tail _ (.head _)))))))))) (all_app ((fun b hb => (.tail _ (.tail _ (.tail _ (.tail _ (.tail _ (.tail _ (.tail _ (.tail _ (.tail _ (.tail _ (List.mem_append_left _ hb)))))))))))) : ∀ b ∈ L3315, b ∈ (p2462 :: (x2474 :: (D2534 :: (D2611 :: (D2826 :: (D2928 :: (a3064 :: (a3115 :: (a3175 :: (a3284 :: (L3315 ++ (L3117 ++ (L3204 ++ (L3318 ++ []))))))))))))))) (all_app ((fun b hb => (.tail _ (.tail _ (.tail _ (.tail _ (.tail _ (.tail _ (.tail _ (.tail _ (.tail _ (.tail _ (List.mem_append_right _ (List.mem_append_left _ hb))))))))))))) : ∀ b ∈ L3117, b ∈ (p2462 :: (x2474 :: (D2534 :: (D2611 :: (D2826 :: (D2928 :: (a3064 :: (a3115 :: (a3175 :: (a3284 :: (L3315 ++ (L3117 ++ (L3204 ++ (L3318 ++ []))))))))))))))) (all_app ((fun b hb => (.tail _ (.tail _ (.tail _ (.tail _ (.tail _ (.tail _ (.tail _ (.tail _ (.tail _ (.tail _ (List.mem_append_right _ (List.mem_append_right _ (List.mem_append_left _ hb)))))))))))))) : ∀ b ∈ L3204, b ∈ (p2462 :: (x2474 :: (D2534 :: (D2611 :: (D2826 :: (D2928 :: (a3064 :: (a3115 :: (a3175 :: (a3284 :: (L3315 ++ (L3117 ++ (L3204 ++ (L3318 ++ []))))))))))))))) (all_app ((fun b hb => (.tail _ (.tail _ (.tail _ (.tail _ (.tail _ (.tail _ (.tail _ (.tail _ (.tail _ (.tail _ (List.mem_append_right _ (List.mem_append_right _ (List.mem_append_right _ (List.mem_append_left _ hb))))))))))))))) : ∀ b ∈ L3318, b ∈ (p2462 :: (x2474 :: (D2534 :: (D2611 :: (D2826 :: (D2928 :: (a3064 :: (a3115 :: (a3175 :: (a3284 :: (L3315 ++ (L3117 ++ (L3204 ++ (L3318 ++ []))))))))))))))) all_nil))))))))))))))), h3335, h3336, h3337, h3338, h3339, h3340, h3341, h3342, h3343, h3344, ne3345, ne3346, ne3347, ne3348, ne3349, ne3350, ne3351, ne3352, ne3353, ne3354, ne3355, ne3356, (fun b hb => (ne3357 b hb)), ne3358, ne3359, ne3360, ne3361, ne3362, ne3363, ne3364, ne3365, ne3366, ne3367, ne3368, ne3369, w3370, w3371, w3372, w3373, hw⟩
                    · intro i σ H3408 hi hw
                      obtain ⟨actual_3401, vs3402, L3403, longer_3404, vs3405, L3406, u3407, G3449, rfl, eG3450, S3409, h3410, h3411, h3412, h3413, h3414, h3415, h3416, h3417, h3418, h3419, ne3420, ne3421, ne3422, ne3423, ne3424, ne3425, ne3426, ne3427, ne3428, ne3429, ne3430, ne3431, ne3432, ne3433, ne3434, ne3435, ne3436, ne3437, ne3438, ne3439, ne3440, ne3441, ne3442, ne3443, ne3444, w3445, w3446, w3447, w3448, hw⟩ := hw
                      have hw := cW_forS (rng_get hi) hw
                      generalize (0 + (i : Int)) = x3451 at hw ⊢
                      have hw : cW (F_law_b12 (x3376) (actual_3401) (longer_3404) (x3451)) _ EE := hw
                      unfold F_law_b12 at hw
                      obtain ⟨K3454, hK3455, hw⟩ := cW_name hw
                      obtain ⟨g3457, hw⟩ := cW_grd hw
                      obtain ⟨v3458, L3459, a3460, w3461, hs3462, up3463, gr3464⟩ := OwAll.partM (k := x3376) w3445 g3457
                      obtain ⟨b3465, vs3466, L3467, rfl, rfl, h3468, w3469, nb3470⟩ := Ow.toList w3461
                      obtain ⟨g3471, hw⟩ := cW_grd hw
                      obtain ⟨v3472, L3473, a3474, w3475, hs3476, up3477, gr3478⟩ := OwAll.partM (k := x3451) w3469 g3471
                      obtain ⟨b3479, rfl, rfl, h3480⟩ := Ow.toInts w3475
                      obtain ⟨g3481, hw⟩ := cW_grd hw
                      refine ⟨_, rfl, _, rfl, _, _, rfl, rfl, _, rfl, _, rfl, _, _, _, _, rfl, rfl, (SqL.of h3416), a3460, _, rfl, _, _, _, _, rfl, rfl, (SqL.of h3468), a3474, _, _, _, _, rfl, rfl, h3480, (ixN_map g3481), ?_⟩
                      generalize g3482 : upd H3408 b3479 _ = H3483
                      obtain ⟨x3484, h3485⟩ := gen_mut g3482
                      have h3486 : H3483 b3479 = some (.lst ((setL ((itD ((itD (actual_3401) (x3376))) (x3451))) (0) (((-9) - x3451)) : (List Int)).map V.int)) := set_map h3485
                      have S3487 := S3409.mut1 x3484 (((fun b hb => (((fun b hb => (.tail _ (.tail _ (.tail _ (.tail _ (.tail _ (.tail _ (.tail _ (.tail _ (.tail _ (.tail _ (List.mem_append_left _ hb)))))))))))) : ∀ b ∈ L3403, b ∈ (p2462 :: (x2474 :: (D2534 :: (D2611 :: (D2826 :: (D2928 :: (a3064 :: (a3115 :: (a3175 :: (a3284 :: (L3403 ++ (L3117 ++ (L3204 ++ (L3406 ++ []))))))))))))))) : ∀ b ∈ L3403, b ∈ (p2462 :: (x2474 :: (D2534 :: (D2611 :: (D2826 :: (D2928 :: (a3064 :: (a3115 :: (a3175 :: (a3284 :: (L3403 ++ (L3117 ++ (L3204 ++ (L3406 ++ []))))))))))))))) b ((fun c hc => hs3462 c (List.mem_cons_of_mem _ hc)) b hb)) : ∀ b ∈ L3467, b ∈ (p2462 :: (x2474 :: (D2534 :: (D2611 :: (D2826 :: (D2928 :: (a3064 :: (a3115 :: (a3175 :: (a3284 :: (L3403 ++ (L3117 ++ (L3204 ++ (L3406 ++ []))))))))))))))) _ (hs3476 _ List.mem_cons_self)) h3486
                      have w3488 : OwAll G3449 H3483 L3467 (vs3466) ((setL ((itD (actual_3401) (x3376))) (x3451) (setL ((itD ((itD (actual_3401) (x3376))) (x3451))) (0) (((-9) - x3451))) : (List (List Int))).map (oL oI)) := upd_tree up3477 x3484 List.mem_cons_self (Ow.ints h3486)
                      have hw := cW_bnd hw
                      have h3490 := (x3484 _ _ h3468 (nb3470 _ (hs3476 _ List.mem_cons_self)).symm)
                      have w3491 : OwAll G3449 H3483 L3403 (vs3402) ((setL (actual_3401) (x3376) (setL ((itD (actual_3401) (x3376))) (x3451) (setL ((itD ((itD (actual_3401) (x3376))) (x3451))) (0) (((-9) - x3451)))) : (List (List (List Int)))).map (oL (oL oI))) := upd_tree up3463 x3484 (List.mem_cons_of_mem _ (hs3476 _ List.mem_cons_self)) (Ow.list h3490 w3488 (nb3470 : ∀ b ∈ L3467, b ≠ b3465))
                      have hw := cW_bnd hw
                      obtain ⟨g3493, hw⟩ := cW_grd hw
                      have w3494 : OwAll G3449 H3483 L3406 (vs3405) ((longer_3404 : (List (List (List Int)))).map (oL (oL oI))) := (OwAll.mono (Same.refl _) (keeps_mut x3484 ((fun b hb z => (fun b hb => ((nl_symm (fun c hc => (ne3432 : ∀ c ∈ L3403, c ∉ L3406) c ((fun c hc => hs3462 c (List.mem_cons_of_mem _ hc)) c hc))) b hb)) b hb (z ▸ (hs3476 _ List.mem_cons_self))) : ∀ b ∈ L3406, b ≠ b3479)) w3448)
                      obtain ⟨v3495, L3496, a3497, w3498, hs3499, up3500, gr3501⟩ := OwAll.partM (k := x3376) w3494 g3493
                      have h3502 := (x3484 _ _ h3419 ((((fun b hb => (ne3429 : ∀ b ∈ L3403, b ≠ a3284) b ((fun c hc => hs3462 c (List.mem_cons_of_mem _ hc)) b hb)) : ∀ b ∈ L3467, b ≠ a3284) _ (hs3476 _ List.mem_cons_self))).symm)
                      obtain ⟨b3503, vs3504, L3505, rfl, rfl, h3506, w3507, nb3508⟩ := Ow.toList w3498
                      obtain ⟨g3509, hw⟩ := cW_grd hw
                      obtain ⟨v3510, L3511, a3512, w3513, hs3514, up3515, gr3516⟩ := OwAll.partM (k := x3451) w3507 g3509
                      obtain ⟨b3517, rfl, rfl, h3518⟩ := Ow.toInts w3513
                      obtain ⟨g3519, hw⟩ := cW_grd hw
                      refine ⟨_, rfl, _, rfl, _, _, rfl, rfl, _, rfl, _, rfl, _, _, _, _, rfl, rfl, (SqL.of h3502), a3497, _, rfl, _, _, _, _, rfl, rfl, (SqL.of h3506), a3512, _, _, _, _, rfl, rfl, h3518, (ixN_map g3519), ?_⟩
                      generalize g3520 : upd H3483 b3517 _ = H3521
                      obtain ⟨x3522, h3523⟩ := gen_mut g3520
                      have h3524 : H3521 b3517 = some (.lst ((setL ((itD ((itD (longer_3404) (x3376))) (x3451))) (0) (((-9) - x3451)) : (List Int)).map V.int)) := set_map h3523
                      have S3525 := S3487.mut1 x3522 (((fun b hb => (((fun b hb => (.tail _ (.tail _ (.tail _ (.tail _ (.tail _ (.tail _ (.tail _ (.tail _ (.tail _ (.tail _ (List.mem_append_right _ (List.mem_append_right _ (List.mem_append_right _ (List.mem_append_left _ hb))))))))))))))) : ∀ b ∈ L3406, b ∈ (p2462 :: (x2474 :: (D2534 :: (D2611 :: (D2826 :: (D2928 :: (a3064 :: (a3115 :: (a3175 :: (a3284 :: (L3403 ++ (L3117 ++ (L3204 ++ (L3406 ++ []))))))))))))))) : ∀ b ∈ L3406, b ∈ (p2462 :: (x2474 :: (D2534 :: (D2611 :: (D2826 :: (D2928 :: (a3064 :: (a3115 :: (a3175 :: (a3284 :: (L3403 ++ (L3117 ++ (L3204 ++ (L3406 ++ []))))))))))))))) b ((fun c hc => hs3499 c (List.mem_cons_of_mem _ hc)) b hb)) : ∀ b ∈ L3505, b ∈ (p2462 :: (x2474 :: (D2534 :: (D2611 :: (D2826 :: (D2928 :: (a3064 :: (a3115 :: (a3175 :: (a3284 :: (L3403 ++ (L3117 ++ (L3204 ++ (L3406 ++ []))))))))))))))) _ (hs3514 _ List.mem_cons_self)) h3524
                      have w3526 : OwAll G3449 H3521 L3505 (vs3504) ((setL ((itD (longer_3404) (x3376))) (x3451) (setL ((itD ((itD (longer_3404) (x3376))) (x3451))) (0) (((-9) - x3451))) : (List (List Int))).map (oL oI)) := upd_tree up3515 x3522 List.mem_cons_self (Ow.ints h3524)
                      have hw := cW_bnd hw
                      have h3528 := (x3522 _ _ h3506 (nb3508 _ (hs3514 _ List.mem_cons_self)).symm)
                      have w3529 : OwAll G3449 H3521 L3406 (vs3405) ((setL (longer_3404) (x3376) (setL ((itD (longer_3404) (x3376))) (x3451) (setL ((itD ((itD (longer_3404) (x3376))) (x3451))) (0) (((-9) - x3451)))) : (List (List (List Int)))).map (oL (oL oI))) := upd_tree up3500 x3522 (List.mem_cons_of_mem _ (hs3514 _ List.mem_cons_self)) (Ow.list h3528 w3526 (nb3508 : ∀ b ∈ L3505, b ≠ b3503))
                      have hw := cW_bnd hw
                      have hw := cW_ok hw
                      have hw := hK3455 _ hw
                      have h3531 := (x3522 _ _ (x3484 _ _ h3410 ((((fun b hb => (ne3420 : ∀ b ∈ L3403, b ≠ p2462) b ((fun c hc => hs3462 c (List.mem_cons_of_mem _ hc)) b hb)) : ∀ b ∈ L3467, b ≠ p2462) _ (hs3476 _ List.mem_cons_self))).symm) ((((fun b hb => (ne3433 : ∀ b ∈ L3406, b ≠ p2462) b ((fun c hc => hs3499 c (List.mem_cons_of_mem _ hc)) b hb)) : ∀ b ∈ L3505, b ≠ p2462) _ (hs3514 _ List.mem_cons_self))).symm)
                      have h3532 := (x3522 _ _ (x3484 _ _ h3411 ((((fun b hb => (ne3421 : ∀ b ∈ L3403, b ≠ x2474) b ((fun c hc => hs3462 c (List.mem_cons_of_mem _ hc)) b hb)) : ∀ b ∈ L3467, b ≠ x2474) _ (hs3476 _ List.mem_cons_self))).symm) ((((fun b hb => (ne3434 : ∀ b ∈ L3406, b ≠ x2474) b ((fun c hc => hs3499 c (List.mem_cons_of_mem _ hc)) b hb)) : ∀ b ∈ L3505, b ≠ x2474) _ (hs3514 _ List.mem_cons_self))).symm)
                      have h3533 := (x3522 _ _ (x3484 _ _ h3412 ((((fun b hb => (ne3422 : ∀ b ∈ L3403, b ≠ D2534) b ((fun c hc => hs3462 c (List.mem_cons_of_mem _ hc)) b hb)) : ∀ b ∈ L3467, b ≠ D2534) _ (hs3476 _ List.mem_cons_self))).symm) ((((fun b hb => (ne3435 : ∀ b ∈ L3406, b ≠ D2534) b ((fun c hc => hs3499 c (List.mem_cons_of_mem _ hc)) b hb)) : ∀ b ∈ L3505, b ≠ D2534) _ (hs3514 _ List.mem_cons_self))).symm)
                      have h3534 := (x3522 _ _ (x3484 _ _ h3413 ((((fun b hb => (ne3423 : ∀ b ∈ L3403, b ≠ D2611) b ((fun c hc => hs3462 c (List.mem_cons_of_mem _ hc)) b hb)) : ∀ b ∈ L3467, b ≠ D2611) _ (hs3476 _ List.mem_cons_self))).symm) ((((fun b hb => (ne3436 : ∀ b ∈ L3406, b ≠ D2611) b ((fun c hc => hs3499 c (List.mem_cons_of_mem _ hc)) b hb)) : ∀ b ∈ L3505, b ≠ D2611) _ (hs3514 _ List.mem_cons_self))).symm)
                      have h3535 := (x3522 _ _ (x3484 _ _ h3414 ((((fun b hb => (ne3424 : ∀ b ∈ L3403, b ≠ D2826) b ((fun c hc => hs3462 c (List.mem_cons_of_mem _ hc)) b hb)) : ∀ b ∈ L3467, b ≠ D2826) _ (hs3476 _ List.mem_cons_self))).symm) ((((fun b hb => (ne3437 : ∀ b ∈ L3406, b ≠ D2826) b ((fun c hc => hs3499 c (List.mem_cons_of_mem _ hc)) b hb)) : ∀ b ∈ L3505, b ≠ D2826) _ (hs3514 _ List.mem_cons_self))).symm)
                      have h3536 := (x3522 _ _ (x3484 _ _ h3415 ((((fun b hb => (ne3425 : ∀ b ∈ L3403, b ≠ D2928) b ((fun c hc => hs3462 c (List.mem_cons_of_mem _ hc)) b hb)) : ∀ b ∈ L3467, b ≠ D2928) _ (hs3476 _ List.mem_cons_self))).symm) ((((fun b hb => (ne3438 : ∀ b ∈ L3406, b ≠ D2928) b ((fun c hc => hs3499 c (List.mem_cons_of_mem _ hc)) b hb)) : ∀ b ∈ L3505, b ≠ D2928) _ (hs3514 _ List.mem_cons_self))).symm)
                      have h3537 := (x3522 _ _ (x3484 _ _ h3416 ((((fun b hb => (ne3426 : ∀ b ∈ L3403, b ≠ a3064) b ((fun c hc => hs3462 c (List.mem_cons_of_mem _ hc)) b hb)) : ∀ b ∈ L3467, b ≠ a3064) _ (hs3476 _ List.mem_cons_self))).symm) ((((fun b hb => (ne3439 : ∀ b ∈ L3406, b ≠ a3064) b ((fun c hc => hs3499 c (List.mem_cons_of_mem _ hc)) b hb)) : ∀ b ∈ L3505, b ≠ a3064) _ (hs3514 _ List.mem_cons_self))).symm)
                      have h3538 := (x3522 _ _ (x3484 _ _ h3417 ((((fun b hb => (ne3427 : ∀ b ∈ L3403, b ≠ a3115) b ((fun c hc => hs3462 c (List.mem_cons_of_mem _ hc)) b hb)) : ∀ b ∈ L3467, b ≠ a3115) _ (hs3476 _ List.mem_cons_self))).symm) ((((fun b hb => (ne3440 : ∀ b ∈ L3406, b ≠ a3115) b ((fun c hc => hs3499 c (List.mem_cons_of_mem _ hc)) b hb)) : ∀ b ∈ L3505, b ≠ a3115) _ (hs3514 _ List.mem_cons_self))).symm)
                      have h3539 := (x3522 _ _ (x3484 _ _ h3418 ((((fun b hb => (ne3428 : ∀ b ∈ L3403, b ≠ a3175) b ((fun c hc => hs3462 c (List.mem_cons_of_mem _ hc)) b hb)) : ∀ b ∈ L3467, b ≠ a3175) _ (hs3476 _ List.mem_cons_self))).symm) ((((fun b hb => (ne3441 : ∀ b ∈ L3406, b ≠ a3175) b ((fun c hc => hs3499 c (List.mem_cons_of_mem _ hc)) b hb)) : ∀ b ∈ L3505, b ≠ a3175) _ (hs3514 _ List.mem_cons_self))).symm)
                      have h3540 := (x3522 _ _ h3502 ((((fun b hb => (ne3442 : ∀ b ∈ L3406, b ≠ a3284) b ((fun c hc => hs3499 c (List.mem_cons_of_mem _ hc)) b hb)) : ∀ b ∈ L3505, b ≠ a3284) _ (hs3514 _ List.mem_cons_self))).symm)
                      have w3541 : OwAll G3449 H3521 L3403 (vs3402) ((setL (actual_3401) (x3376) (setL ((itD (actual_3401) (x3376))) (x3451) (setL ((itD ((itD (actual_3401) (x3376))) (x3451))) (0) (((-9) - x3451)))) : (List (List (List Int)))).map (oL (oL oI))) := (OwAll.mono (Same.refl _) (keeps_mut x3522 ((fun b hb z => (fun b hb => ((nl_symm (fun c hc => ((nl_symm ne3432) : ∀ c ∈ L3406, c ∉ L3403) c ((fun c hc => hs3499 c (List.mem_cons_of_mem _ hc)) c hc))) b hb)) b hb (z ▸ (hs3514 _ List.mem_cons_self))) : ∀ b ∈ L3403, b ≠ b3517)) w3491)
                      have w3542 : OwAll G3449 H3521 L3117 (vs3116) ((setL (v3112) (0) (setL ((itD (v3112) (0))) (0) (setL ((itD ((itD (v3112) (0))) (0))) (0) ((top_2496 + 1)))) : (List (List (List Int)))).map (oL (oL oI))) := (OwAll.mono (Same.refl _) (keeps_mut x3522 ((fun b hb z => (fun b hb => ((nl_symm (fun c hc => (ne3443 : ∀ c ∈ L3406, c ∉ L3117) c ((fun c hc => hs3499 c (List.mem_cons_of_mem _ hc)) c hc))) b hb)) b hb (z ▸ (hs3514 _ List.mem_cons_self))) : ∀ b ∈ L3117, b ≠ b3517)) (OwAll.mono (Same.refl _) (keeps_mut x3484 ((fun b hb z => (fun b hb => ((nl_symm (fun c hc => (ne3430 : ∀ c ∈ L3403, c ∉ L3117) c ((fun c hc => hs3462 c (List.mem_cons_of_mem _ hc)) c hc))) b hb)) b hb (z ▸ (hs3476 _ List.mem_cons_self))) : ∀ b ∈ L3117, b ≠ b3479)) w3446))
                      have w3543 : OwAll G3449 H3521 L3204 (vs3203) ((spoilt_3202 : (List (List (List Int)))).map (oL (oL oI))) := (OwAll.mono (Same.refl _) (keeps_mut x3522 ((fun b hb z => (fun b hb => ((nl_symm (fun c hc => (ne3444 : ∀ c ∈ L3406, c ∉ L3204) c ((fun c hc => hs3499 c (List.mem_cons_of_mem _ hc)) c hc))) b hb)) b hb (z ▸ (hs3514 _ List.mem_cons_self))) : ∀ b ∈ L3204, b ≠ b3517)) (OwAll.mono (Same.refl _) (keeps_mut x3484 ((fun b hb z => (fun b hb => ((nl_symm (fun c hc => (ne3431 : ∀ c ∈ L3403, c ∉ L3204) c ((fun c hc => hs3462 c (List.mem_cons_of_mem _ hc)) c hc))) b hb)) b hb (z ▸ (hs3476 _ List.mem_cons_self))) : ∀ b ∈ L3204, b ≠ b3479)) w3447))
                      exact ⟨(setL (actual_3401) (x3376) (setL ((itD (actual_3401) (x3376))) (x3451) (setL ((itD ((itD (actual_3401) (x3376))) (x3451))) (0) (((-9) - x3451))))), (vs3402), L3403, (setL (longer_3404) (x3376) (setL ((itD (longer_3404) (x3376))) (x3451) (setL ((itD ((itD (longer_3404) (x3376))) (x3451))) (0) (((-9) - x3451))))), (vs3405), L3406, _, _, rfl, eG3450, (S3525.sub (all_cons (.head _) (all_cons (.tail _ (.head _)) (all_cons (.tail _ (.tail _ (.head _))) (all_cons (.tail _ (.tail _ (.tail _ (.head _)))) (all_cons (.tail _ (.tail _ (.tail _ (.tail _ (.head _))))) (all_cons (.tail _ (.tail _ (.tail _ (.tail _ (.tail _ (.head _)))))) (all_cons (.tail _ (.tail _ (.tail _ (.tail _ (.tail _ (.tail _ (.head _))))))) (all_cons (.tail _ (.tail _ (.tail _ (.tail _ (.tail _ (.tail _ (.tail _ (.head _)))))))) (all_cons (.tail _ (.tail _ (.tail _ (.tail _ (.tail _ (.tail _ (.tail _ (.tail _ (.head _))))))))) (all_cons (.tail _ (.tail _ (.tail _ (.tail _ (.tail _ (.tail _ (.tail _ (.tail _ (.tail _ (.head _)))))))))) (all_app ((fun b hb => (.tail _ (.tail _ (.tail _ (.tail _ (.tail _ (.tail _ (.tail _ (.tail _ (.tail _ (.tail _ (List.mem_append_left _ hb)))))))))))) : ∀ b ∈ L3403, b ∈ (p2462 :: (x2474 :: (D2534 :: (D2611 :: (D2826 :: (D2928 :: (a3064 :: (a3115 :: (a3175 :: (a3284 :: (L3403 ++ (L3117 ++ (L3204 ++ (L3406 ++ []))))))))))))))) (all_app ((fun b hb => (.tail _ (.tail _ (.tail _ (.tail _ (.tail _ (.tail _ (.tail _ (.tail _ (.tail _ (.tail _ (List.mem_append_right _ (List.mem_append_left _ hb))))))))))))) : ∀ b ∈ L3117, b ∈ (p2462 :: (x2474 :: (D2534 :: (D2611 :: (D2826 :: (D2928 :: (a3064 :: (a3115 :: (a3175 :: (a3284 :: (L3403 ++ (L3117 ++ (L3204 ++ (L3406 ++ []))))))))))))))) (all_app ((fun b hb => (.tail _ (.tail _ (.tail _ (.tail _ (.tail _ (.tail _ (.tail _ (.tail _ (.tail _ (.tail _ (List.mem_append_right _ (List.mem_append_right _ (List.mem_append_left _ hb)))))))))))))) : ∀ b ∈ L3204, b ∈ (p2462 :: (x2474 :: (D2534 :: (D2611 :: (D2826 :: (D2928 :: (a3064 :: (a3115 :: (a3175 :: (a3284 :: (L3403 ++ (L3117 ++ (L3204 ++ (L3406 ++ []))))))))))))))) (all_app ((fun b hb => (.tail _ (.tail _ (.tail _ (.tail _ (.tail _ (.tail _ (.tail _ (.tail _ (.tail _ (.tail _ (List.mem_append_right _ (List.mem_append_right _ (List.mem_append_right _ (List.mem_append_left _ hb))))))))))))))) : ∀ b ∈ L3406, b ∈ (p2462 :: (x2474 :: (D2534 :: (D2611 :: (D2826 :: (D2928 :: (a3064 :: (a3115 :: (a3175 :: (a3284 :: (L3403 ++ (L3117 ++ (L3204 ++ (L3406 ++ []))))))))))))))) all_nil))))))))))))))), h3531, h3532, h3533, h3534, h3535, h3536, h3537, h3538, h3539, h3540, ne3420, ne3421, ne3422, ne3423, ne3424, ne3425, ne3426, ne3427, ne3428, ne3429, ne3430, ne3431, (fun b hb => (ne3432 b hb)), ne3433, ne3434, ne3435, ne3436, ne3437, ne3438, ne3439, ne3440, ne3441, ne3442, ne3443, ne3444, w3541, w3542, w3543, w3529, hw⟩
                    · intro σ H3544 hw
                      obtain ⟨actual_3401, vs3402, L3403, longer_3404, vs3405, L3406, u3407, G3585, rfl, eG3586, S3545, h3546, h3547, h3548, h3549, h3550, h3551, h3552, h3553, h3554, h3555, ne3556, ne3557, ne3558, ne3559, ne3560, ne3561, ne3562, ne3563, ne3564, ne3565, ne3566, ne3567, ne3568, ne3569, ne3570, ne3571, ne3572, ne3573, ne3574, ne3575, ne3576, ne3577, ne3578, ne3579, ne3580, w3581, w3582, w3583, w3584, hw⟩ := hw
                      have hw := hK3400 _ (cW_forS0 (rng_len _ _).symm hw)
                      have hw : cW (F_law_r12 (x3376) (actual_3401) (longer_3404)) _ EE := hw
                      unfold F_law_r12 at hw
                      obtain ⟨g3589, hw⟩ := cW_grd hw
                      obtain ⟨v3590, L3591, a3592, w3593, hs3594, up3595, gr3596⟩ := OwAll.partM (k := x3376) w3581 g3589
                      obtain ⟨b3597, vs3598, L3599, rfl, rfl, h3600, w3601, nb3602⟩ := Ow.toList w3593
                      obtain ⟨g3603, hw⟩ := cW_grd hw
                      obtain ⟨v3604, L3605, a3606, w3607, hs3608, up3609, gr3610⟩ := OwAll.partM (k := (-1)) w3601 g3603
                      obtain ⟨b3611, rfl, rfl, h3612⟩ := Ow.toInts w3607
                      obtain ⟨g3613, hw⟩ := cW_grd hw
                      refine ⟨_, rfl, _, rfl, _, _, _, _, rfl, rfl, (SqL.of h3552), a3592, _, rfl, _, _, _, _, rfl, rfl, (SqL.of h3600), a3606, (.inl ⟨rfl, _, SqL.of h3612⟩), _, _, _, rfl, rfl, h3612, (app_lenM g3613), ?_⟩
                      generalize g3614 : upd H3544 b3611 _ = H3615
                      obtain ⟨x3616, h3617⟩ := gen_mut g3614
                      have h3618 : H3615 b3611 = some (.lst ((((itD ((itD (actual_3401) (x3376))) ((-1)))) ++ [5] : (List Int)).map V.int)) := snoc_map h3617
                      have S3619 := S3545.mut1 x3616 (((fun b hb => (((fun b hb => (.tail _ (.tail _ (.tail _ (.tail _ (.tail _ (.tail _ (.tail _ (.tail _ (.tail _ (.tail _ (List.mem_append_left _ hb)))))))))))) : ∀ b ∈ L3403, b ∈ (p2462 :: (x2474 :: (D2534 :: (D2611 :: (D2826 :: (D2928 :: (a3064 :: (a3115 :: (a3175 :: (a3284 :: (L3403 ++ (L3117 ++ (L3204 ++ (L3406 ++ []))))))))))))))) : ∀ b ∈ L3403, b ∈ (p2462 :: (x2474 :: (D2534 :: (D2611 :: (D2826 :: (D2928 :: (a3064 :: (a3115 :: (a3175 :: (a3284 :: (L3403 ++ (L3117 ++ (L3204 ++ (L3406 ++ []))))))))))))))) b ((fun c hc => hs3594 c (List.mem_cons_of_mem _ hc)) b hb)) : ∀ b ∈ L3599, b ∈ (p2462 :: (x2474 :: (D2534 :: (D2611 :: (D2826 :: (D2928 :: (a3064 :: (a3115 :: (a3175 :: (a3284 :: (L3403 ++ (L3117 ++ (L3204 ++ (L3406 ++ []))))))))))))))) _ (hs3608 _ List.mem_cons_self)) h3618
                      have w3620 : OwAll G3585 H3615 L3599 (vs3598) ((setL ((itD (actual_3401) (x3376))) ((-1)) (((itD ((itD (actual_3401) (x3376))) ((-1)))) ++ [5]) : (List (List Int))).map (oL oI)) := upd_tree up3609 x3616 List.mem_cons_self (Ow.ints h3618)
                      have hw := cW_bnd hw
                      have h3622 := (x3616 _ _ h3600 (nb3602 _ (hs3608 _ List.mem_cons_self)).symm)
                      have w3623 : OwAll G3585 H3615 L3403 (vs3402) ((setL (actual_3401) (x3376) (setL ((itD (actual_3401) (x3376))) ((-1)) (((itD ((itD (actual_3401) (x3376))) ((-1)))) ++ [5])) : (List (List (List Int)))).map (oL (oL oI))) := upd_tree up3595 x3616 (List.mem_cons_of_mem _ (hs3608 _ List.mem_cons_self)) (Ow.list h3622 w3620 (nb3602 : ∀ b ∈ L3599, b ≠ b3597))
                      have hw := cW_bnd hw
                      obtain ⟨g3625, hw⟩ := cW_grd hw
                      have w3626 : OwAll G3585 H3615 L3406 (vs3405) ((longer_3404 : (List (List (List Int)))).map (oL (oL oI))) := (OwAll.mono (Same.refl _) (keeps_mut x3616 ((fun b hb z => (fun b hb => ((nl_symm (fun c hc => (ne3568 : ∀ c ∈ L3403, c ∉ L3406) c ((fun c hc => hs3594 c (List.mem_cons_of_mem _ hc)) c hc))) b hb)) b hb (z ▸ (hs3608 _ List.mem_cons_self))) : ∀ b ∈ L3406, b ≠ b3611)) w3584)
                      obtain ⟨v3627, L3628, a3629, w3630, hs3631, up3632, gr3633⟩ := OwAll.partM (k := x3376) w3626 g3625
                      have h3634 := (x3616 _ _ h3555 ((((fun b hb => (ne3565 : ∀ b ∈ L3403, b ≠ a3284) b ((fun c hc => hs3594 c (List.mem_cons_of_mem _ hc)) b hb)) : ∀ b ∈ L3599, b ≠ a3284) _ (hs3608 _ List.mem_cons_self))).symm)
                      obtain ⟨b3635, vs3636, L3637, rfl, rfl, h3638, w3639, nb3640⟩ := Ow.toList w3630
                      obtain ⟨g3641, hw⟩ := cW_grd hw
                      obtain ⟨v3642, L3643, a3644, w3645, hs3646, up3647, gr3648⟩ := OwAll.partM (k := (-1)) w3639 g3641
                      obtain ⟨b3649, rfl, rfl, h3650⟩ := Ow.toInts w3645
                      obtain ⟨g3651, hw⟩ := cW_grd hw
                      refine ⟨_, rfl, _, rfl, _, _, _, _, rfl, rfl, (SqL.of h3634), a3629, _, rfl, _, _, _, _, rfl, rfl, (SqL.of h3638), a3644, (.inl ⟨rfl, _, SqL.of h3650⟩), _, _, _, rfl, rfl, h3650, (app_lenM g3651), ?_⟩
                      generalize g3652 : upd H3615 b3649 _ = H3653
                      obtain ⟨x3654, h3655⟩ := gen_mut g3652
                      have h3656 : H3653 b3649 = some (.lst ((((itD ((itD (longer_3404) (x3376))) ((-1)))) ++ [5] : (List Int)).map V.int)) := snoc_map h3655
                      have S3657 := S3619.mut1 x3654 (((fun b hb => (((fun b hb => (.tail _ (.tail _ (.tail _ (.tail _ (.tail _ (.tail _ (.tail _ (.tail _ (.tail _ (.tail _ (List.mem_append_right _ (List.mem_append_right _ (List.mem_append_right _ (List.mem_append_left _ hb))))))))))))))) : ∀ b ∈ L3406, b ∈ (p2462 :: (x2474 :: (D2534 :: (D2611 :: (D2826 :: (D2928 :: (a3064 :: (a3115 :: (a3175 :: (a3284 :: (L3403 ++ (L3117 ++ (L3204 ++ (L3406 ++ []))))))))))))))) : ∀ b ∈ L3406, b ∈ (p2462 :: (x2474 :: (D2534 :: (D2611 :: (D2826 :: (D2928 :: (a3064 :: (a3115 :: (a3175 :: (a3284 :: (L3403 ++ (L3117 ++ (L3204 ++ (L3406 ++ []))))))))))))))) b ((fun c hc => hs3631 c (List.mem_cons_of_mem _ hc)) b hb)) : ∀ b ∈ L3637, b ∈ (p2462 :: (x2474 :: (D2534 :: (D2611 :: (D2826 :: (D2928 :: (a3064 :: (a3115 :: (a3175 :: (a3284 :: (L3403 ++ (L3117 ++ (L3204 ++ (L3406 ++ []))))))))))))))) _ (hs3646 _ List.mem_cons_self)) h3656
                      have w3658 : OwAll G3585 H3653 L3637 (vs3636) ((setL ((itD (longer_3404) (x3376))) ((-1)) (((itD ((itD (longer_3404) (x3376))) ((-1)))) ++ [5]) : (List (List Int))).map (oL oI)) := upd_tree up3647 x3654 List.mem_cons_self (Ow.ints h3656)
                      have hw := cW_bnd hw
                      have h3660 := (x3654 _ _ h3638 (nb3640 _ (hs3646 _ List.mem_cons_self)).symm)
                      have w3661 : OwAll G3585 H3653 L3406 (vs3405) ((setL (longer_3404) (x3376) (setL ((itD (longer_3404) (x3376))) ((-1)) (((itD ((itD (longer_3404) (x3376))) ((-1)))) ++ [5])) : (List (List (List Int)))).map (oL (oL oI))) := upd_tree up3632 x3654 (List.mem_cons_of_mem _ (hs3646 _ List.mem_cons_self)) (Ow.list h3660 w3658 (nb3640 : ∀ b ∈ L3637, b ≠ b3635))
                      have hw := cW_bnd hw
                      have hw := cW_ok hw
                      have hw := hK3380 _ hw
                      have h3663 := (x3654 _ _ (x3616 _ _ h3546 ((((fun b hb => (ne3556 : ∀ b ∈ L3403, b ≠ p2462) b ((fun c hc => hs3594 c (List.mem_cons_of_mem _ hc)) b hb)) : ∀ b ∈ L3599, b ≠ p2462) _ (hs3608 _ List.mem_cons_self))).symm) ((((fun b hb => (ne3569 : ∀ b ∈ L3406, b ≠ p2462) b ((fun c hc => hs3631 c (List.mem_cons_of_mem _ hc)) b hb)) : ∀ b ∈ L3637, b ≠ p2462) _ (hs3646 _ List.mem_cons_self))).symm)
                      have h3664 := (x3654 _ _ (x3616 _ _ h3547 ((((fun b hb => (ne3557 : ∀ b ∈ L3403, b ≠ x2474) b ((fun c hc => hs3594 c (List.mem_cons_of_mem _ hc)) b hb)) : ∀ b ∈ L3599, b ≠ x2474) _ (hs3608 _ List.mem_cons_self))).symm) ((((fun b hb => (ne3570 : ∀ b ∈ L3406, b ≠ x2474) b ((fun c hc => hs3631 c (List.mem_cons_of_mem _ hc)) b hb)) : ∀ b ∈ L3637, b ≠ x2474) _ (hs3646 _ List.mem_cons_self))).symm)
                      have h3665 := (x3654 _ _ (x3616 _ _ h3548 ((((fun b hb => (ne3558 : ∀ b ∈ L3403, b ≠ D2534) b ((fun c hc => hs3594 c (List.mem_cons_of_mem _ hc)) b hb)) : ∀ b ∈ L3599, b ≠ D2534) _ (hs3608 _ List.mem_cons_self))).symm) ((((fun b hb => (ne3571 : ∀ b ∈ L3406, b ≠ D2534) b ((fun c hc => hs3631 c (List.mem_cons_of_mem _ hc)) b hb)) : ∀ b ∈ L3637, b ≠ D2534) _ (hs3646 _ List.mem_cons_self))).symm)
                      have h3666 := (x3654 _ _ (x3616 _ _ h3549 ((((fun b hb => (ne3559 : ∀ b ∈ L3403, b ≠ D2611) b ((fun c hc => hs3594 c (List.mem_cons_of_mem _ hc)) b hb)) : ∀ b ∈ L3599, b ≠ D2611) _ (hs3608 _ List.mem_cons_self))).symm) ((((fun b hb => (ne3572 : ∀ b ∈ L3406, b ≠ D2611) b ((fun c hc => hs3631 c (List.mem_cons_of_mem _ hc)) b hb)) : ∀ b ∈ L3637, b ≠ D2611) _ (hs3646 _ List.mem_cons_self))).symm)
                      have h3667 := (x3654 _ _ (x3616 _ _ h3550 ((((fun b hb => (ne3560 : ∀ b ∈ L3403, b ≠ D2826) b ((fun c hc => hs3594 c (List.mem_cons_of_mem _ hc)) b hb)) : ∀ b ∈ L3599, b ≠ D2826) _ (hs3608 _ List.mem_cons_self))).symm) ((((fun b hb => (ne3573 : ∀ b ∈ L3406, b ≠ D2826) b ((fun c hc => hs3631 c (List.mem_cons_of_mem _ hc)) b hb)) : ∀ b ∈ L3637, b ≠ D2826) _ (hs3646 _ List.mem_cons_self))).symm)
                      have h3668 := (x3654 _ _ (x3616 _ _ h3551 ((((fun b hb => (ne3561 : ∀ b ∈ L3403, b ≠ D2928) b ((fun c hc => hs3594 c (List.mem_cons_of_mem _ hc)) b hb)) : ∀ b ∈ L3599, b ≠ D2928) _ (hs3608 _ List.mem_cons_self))).symm) ((((fun b hb => (ne3574 : ∀ b ∈ L3406, b ≠ D2928) b ((fun c hc => hs3631 c (List.mem_cons_of_mem _ hc)) b hb)) : ∀ b ∈ L3637, b ≠ D2928) _ (hs3646 _ List.mem_cons_self))).symm)
                      have h3669 := (x3654 _ _ (x3616 _ _ h3552 ((((fun b hb => (ne3562 : ∀ b ∈ L3403, b ≠ a3064) b ((fun c hc => hs3594 c (List.mem_cons_of_mem _ hc)) b hb)) : ∀ b ∈ L3599, b ≠ a3064) _ (hs3608 _ List.mem_cons_self))).symm) ((((fun b hb => (ne3575 : ∀ b ∈ L3406, b ≠ a3064) b ((fun c hc => hs3631 c (List.mem_cons_of_mem _ hc)) b hb)) : ∀ b ∈ L3637, b ≠ a3064) _ (hs3646 _ List.mem_cons_self))).symm)
                      have h3670 := (x3654 _ _ (x3616 _ _ h3553 ((((fun b hb => (ne3563 : ∀ b ∈ L3403, b ≠ a3115) b ((fun c hc => hs3594 c (List.mem_cons_of_mem _ hc)) b hb)) : ∀ b ∈ L3599, b ≠ a3115) _ (hs3608 _ List.mem_cons_self))).symm) ((((fun b hb => (ne3576 : ∀ b ∈ L3406, b ≠ a3115) b ((fun c hc => hs3631 c (List.mem_cons_of_mem _ hc)) b hb)) : ∀ b ∈ L3637, b ≠ a3115) _ (hs3646 _ List.mem_cons_self))).symm)
                      have h3671 := (x3654 _ _ (x3616 _ _ h3554 ((((fun b hb => (ne3564 : ∀ b ∈ L3403, b ≠ a3175) b ((fun c hc => hs3594 c (List.mem_cons_of_mem _ hc)) b hb)) : ∀ b ∈ L3599, b ≠ a3175) _ (hs3608 _ List.mem_cons_self))).symm) ((((fun b hb => (ne3577 : ∀ b ∈ L3406, b ≠ a3175) b ((fun c hc => hs3631 c (List.mem_cons_of_mem _ hc)) b hb)) : ∀ b ∈ L3637, b ≠ a3175) _ (hs3646 _ List.mem_cons_self))).symm)
                      have h3672 := (x3654 _ _ h3634 ((((fun b hb => (ne3578 : ∀ b ∈ L3406, b ≠ a3284) b ((fun c hc => hs3631 c (List.mem_cons_of_mem _ hc)) b hb)) : ∀ b ∈ L3637, b ≠ a3284) _ (hs3646 _ List.mem_cons_self))).symm)
                      have w3673 : OwAll G3585 H3653 L3403 (vs3402) ((setL (actual_3401) (x3376) (setL ((itD (actual_3401) (x3376))) ((-1)) (((itD ((itD (actual_3401) (x3376))) ((-1)))) ++ [5])) : (List (List (List Int)))).map (oL (oL oI))) := (OwAll.mono (Same.refl _) (keeps_mut x3654 ((fun b hb z => (fun b hb => ((nl_symm (fun c hc => ((nl_symm ne3568) : ∀ c ∈ L3406, c ∉ L3403) c ((fun c hc => hs3631 c (List.mem_cons_of_mem _ hc)) c hc))) b hb)) b hb (z ▸ (hs3646 _ List.mem_cons_self))) : ∀ b ∈ L3403, b ≠ b3649)) w3623)
                      have w3674 : OwAll G3585 H3653 L3117 (vs3116) ((setL (v3112) (0) (setL ((itD (v3112) (0))) (0) (setL ((itD ((itD (v3112) (0))) (0))) (0) ((top_2496 + 1)))) : (List (List (List Int)))).map (oL (oL oI))) := (OwAll.mono (Same.refl _) (keeps_mut x3654 ((fun b hb z => (fun b hb => ((nl_symm (fun c hc => (ne3579 : ∀ c ∈ L3406, c ∉ L3117) c ((fun c hc => hs3631 c (List.mem_cons_of_mem _ hc)) c hc))) b hb)) b hb (z ▸ (hs3646 _ List.mem_cons_self))) : ∀ b ∈ L3117, b ≠ b3649)) (OwAll.mono (Same.refl _) (keeps_mut x3616 ((fun b hb z => (fun b hb => ((nl_symm (fun c hc => (ne3566 : ∀ c ∈ L3403, c ∉ L3117) c ((fun c hc => hs3594 c (List.mem_cons_of_mem _ hc)) c hc))) b hb)) b hb (z ▸ (hs3608 _ List.mem_cons_self))) : ∀ b ∈ L3117, b ≠ b3611)) w3582))
                      have w3675 : OwAll G3585 H3653 L3204 (vs3203) ((spoilt_3202 : (List (List (List Int)))).map (oL (oL oI))) := (OwAll.mono (Same.refl _) (keeps_mut x3654 ((fun b hb z => (fun b hb => ((nl_symm (fun c hc => (ne3580 : ∀ c ∈ L3406, c ∉ L3204) c ((fun c hc => hs3631 c (List.mem_cons_of_mem _ hc)) c hc))) b hb)) b hb (z ▸ (hs3646 _ List.mem_cons_self))) : ∀ b ∈ L3204, b ≠ b3649)) (OwAll.mono (Same.refl _) (keeps_mut x3616 ((fun b hb z => (fun b hb => ((nl_symm (fun c hc => (ne3567 : ∀ c ∈ L3403, c ∉ L3204) c ((fun c hc => hs3594 c (List.mem_cons_of_mem _ hc)) c hc))) b hb)) b hb (z ▸ (hs3608 _ List.mem_cons_self))) : ∀ b ∈ L3204, b ≠ b3611)) w3583))
                      exact ⟨(setL (actual_3401) (x3376) (setL ((itD (actual_3401) (x3376))) ((-1)) (((itD ((itD (actual_3401) (x3376))) ((-1)))) ++ [5]))), (vs3402), L3403, (setL (longer_3404) (x3376) (setL ((itD (longer_3404) (x3376))) ((-1)) (((itD ((itD (longer_3404) (x3376))) ((-1)))) ++ [5]))), (vs3405), L3406, _, _, _, rfl, (Same.trans eG3375 eG3586), (S3657.sub (all_cons (.head _) (all_cons (.tail _ (.head _)) (all_cons (.tail _ (.tail _ (.head _))) (all_cons (.tail _ (.tail _ (.tail _ (.head _)))) (all_cons (.tail _ (.tail _ (.tail _ (.tail _ (.head _))))) (all_cons (.tail _ (.tail _ (.tail _ (.tail _ (.tail _ (.head _)))))) (all_cons (.tail _ (.tail _ (.tail _ (.tail _ (.tail _ (.tail _ (.head _))))))) (all_cons (.tail _ (.tail _ (.tail _ (.tail _ (.tail _ (.tail _ (.tail _ (.head _)))))))) (all_cons (.tail _ (.tail _ (.tail _ (.tail _ (.tail _ (.tail _ (.tail _ (.tail _ (.head _))))))))) (all_cons (.tail _ (.tail _ (.tail _ (.tail _ (.tail _ (.tail _ (.tail _ (.tail _ (.tail _ (.head _)))))))))) (all_app ((fun b hb => (.tail _ (.tail _ (.tail _ (.tail _ (.tail _ (.tail _ (.tail _ (.tail _ (.tail _ (.tail _ (List.mem_append_left _ hb)))))))))))) : ∀ b ∈ L3403, b ∈ (p2462 :: (x2474 :: (D2534 :: (D2611 :: (D2826 :: (D2928 :: (a3064 :: (a3115 :: (a3175 :: (a3284 :: (L3403 ++ (L3117 ++ (L3204 ++ (L3406 ++ []))))))))))))))) (all_app ((fun b hb => (.tail _ (.tail _ (.tail _ (.tail _ (.tail _ (.tail _ (.tail _ (.tail _ (.tail _ (.tail _ (List.mem_append_right _ (List.mem_append_left _ hb))))))))))))) : ∀ b ∈ L3117, b ∈ (p2462 :: (x2474 :: (D2534 :: (D2611 :: (D2826 :: (D2928 :: (a3064 :: (a3115 :: (a3175 :: (a3284 :: (L3403 ++ (L3117 ++ (L3204 ++ (L3406 ++ []))))))))))))))) (all_app ((fun b hb => (.tail _ (.tail _ (.tail _ (.tail _ (.tail _ (.tail _ (.tail _ (.tail _ (.tail _ (.tail _ (List.mem_append_right _ (List.mem_append_right _ (List.mem_append_left _ hb)))))))))))))) : ∀ b ∈ L3204, b ∈ (p2462 :: (x2474 :: (D2534 :: (D2611 :: (D2826 :: (D2928 :: (a3064 :: (a3115 :: (a3175 :: (a3284 :: (L3403 ++ (L3117 ++ (L3204 ++ (L3406 ++ []))))))))))))))) (all_app ((fun b hb => (.tail _ (.tail _ (.tail _ (.tail _ (.tail _ (.tail _ (.tail _ (.tail _ (.tail _ (.tail _ (List.mem_append_right _ (List.mem_append_right _ (List.mem_append_right _ (List.mem_append_left _ hb))))))))))))))) : ∀ b ∈ L3406, b ∈ (p2462 :: (x2474 :: (D2534 :: (D2611 :: (D2826 :: (D2928 :: (a3064 :: (a3115 :: (a3175 :: (a3284 :: (L3403 ++ (L3117 ++ (L3204 ++ (L3406 ++ []))))))))))))))) all_nil))))))))))))))), h3663, h3664, h3665, h3666, h3667, h3668, h3669, h3670, h3671, h3672, ne3556, ne3557, ne3558, ne3559, ne3560, ne3561, ne3562, ne3563, ne3564, ne3565, ne3566, ne3567, (fun b hb => (ne3568 b hb)), ne3569, ne3570, ne3571, ne3572, ne3573, ne3574, ne3575, ne3576, ne3577, ne3578, ne3579, ne3580, w3673, w3674, w3675, w3661, hw⟩
                  · intro σ H3676 hw
                    obtain ⟨actual_3313, vs3314, L3315, longer_3316, vs3317, L3318, u3319, u3320, G3717, rfl, eG3718, S3677, h3678, h3679, h3680, h3681, h3682, h3683, h3684, h3685, h3686, h3687, ne3688, ne3689, ne3690, ne3691, ne3692, ne3693, ne3694, ne3695, ne3696, ne3697, ne3698, ne3699, ne3700, ne3701, ne3702, ne3703, ne3704, ne3705, ne3706, ne3707, ne3708, ne3709, ne3710, ne3711, ne3712, w3713, w3714, w3715, w3716, hw⟩ := hw
                    have hw := hK3312 _ (cW_forS0 (rng_len _ _).symm hw)
                    have hw : cW (F_law_r11 (v2459) (v2485) (count_2516) (acc2594) (frame_2695) (acc2910) (acc3022) (v3035) (setL (v3112) (0) (setL ((itD (v3112) (0))) (0) (setL ((itD ((itD (v3112) (0))) (0))) (0) ((top_2496 + 1))))) (spoilt_3202) (actual_3313) (longer_3316)) _ EE := hw
                    unfold F_law_r11 at hw
                    refine ⟨_, rfl, _, rfl, _, _, (rp_mk_list (S3677.sG _ _ (eG3718 _ _ (eG3291 _ _ (eG3280 _ _ (eG3182 _ _ (eG3122 _ _ (eG3111 _ _ (eG3071 _ _ (eG3055 _ _ (eG3045 _ _ (eG3021 _ _ (eG2909 _ _ h2817)))))))))))) (RpAll.mono S3677.sG (RpAll.mono eG3718 (RpAll.mono eG3291 (RpAll.mono eG3280 (RpAll.mono eG3182 (RpAll.mono eG3122 (RpAll.mono eG3111 (RpAll.mono eG3071 (RpAll.mono eG3055 (RpAll.mono eG3045 (RpAll.mono eG3021 (RpAll.mono eG2909 d2818))))))))))))), (rp_mk_list (S3677.sG _ _ (eG3718 _ _ (eG3291 _ _ (eG3280 _ _ (eG3182 _ _ (eG3122 _ _ (eG3111 _ _ (eG3071 _ _ hg3058)))))))) (RpAll.mono S3677.sG (RpAll.mono eG3718 (RpAll.mono eG3291 (RpAll.mono eG3280 (RpAll.mono eG3182 (RpAll.mono eG3122 (RpAll.mono eG3111 (RpAll.mono eG3071 d3059))))))))), _, rfl, ?_⟩
                    refine iteN (fun c3721 => ?_) (fun c3721 => ?_)
                    · have hw := cW_neg c3721 hw
                      refine iteT ?_
                      have hw := cW_ok hw
                      exact eq_bl (k _) (hK0 _ hw).symm
                    · have hw := cW_pos c3721 hw
                      refine ⟨_, rfl, _, rfl, _, _, (rp_mk_list h3685 (OwAll.rpA w3714 (encO_L (encO_L encO_I)) S3677.sG)), (rp_mk_list h3686 (OwAll.rpA w3715 (encO_L (encO_L encO_I)) S3677.sG)), _, rfl, ?_⟩
                      refine iteN (fun c3722 => ?_) (fun c3722 => ?_)
                      · have hw := cW_neg c3722 hw
                        refine iteT ?_
                        have hw := cW_ok hw
                        exact eq_bl (k _) (hK0 _ hw).symm
                      · have hw := cW_pos c3722 hw
                        refine ⟨_, rfl, _, rfl, _, _, (rp_mk_list h3684 (OwAll.rpA w3713 (encO_L (encO_L encO_I)) S3677.sG)), (rp_mk_list h3687 (OwAll.rpA w3716 (encO_L (encO_L encO_I)) S3677.sG)), _, rfl, ?_⟩
                        refine iteN (fun c3723 => ?_) (fun c3723 => ?_)
                        · have hw := cW_neg c3723 hw
                          refine iteT ?_
                          have hw := cW_ok hw
                          exact eq_bl (k _) (hK0 _ hw).symm
                        · have hw := cW_pos c3723 hw
                          refine ⟨_, rfl, _, rfl, rfl, rfl, G3717, _, _, v2485, _, _, rfl, S3677.sG, (hide_nil h3679), (Rp.hide_nil (rp_mk_list (S3677.sG _ _ (eG3718 _ _ (eG3291 _ _ (eG3280 _ _ (eG3182 _ _ (eG3122 _ _ (eG3111 _ _ (eG3071 _ _ (eG3055 _ _ (eG3045 _ _ (eG3021 _ _ (eG2909 _ _ h2817)))))))))))) (RpAll.mono S3677.sG (RpAll.mono eG3718 (RpAll.mono eG3291 (RpAll.mono eG3280 (RpAll.mono eG3182 (RpAll.mono eG3122 (RpAll.mono eG3111 (RpAll.mono eG3071 (RpAll.mono eG3055 (RpAll.mono eG3045 (RpAll.mono eG3021 (RpAll.mono eG2909 d2818)))))))))))))), cW_call hw (fun v3724 hw H3725 a3727 vs3728 L3729 G3730 n3731 nb3732 nd3733 e3726 eG3734 sG3735 hn3736 ga3737 gL3738 h3739 w3740 => ?_) (fun e he => (hE e he).elim)⟩
                          have fr3741 := S3677.free n3731
                          have S3742 : Sep _ _ _ _ H3725 (a3727 :: (L3729 ++ (p2462 :: (x2474 :: (D2534 :: (D2611 :: (D2826 :: (D2928 :: (a3064 :: (a3115 :: (a3175 :: (a3284 :: (L3315 ++ (L3117 ++ (L3204 ++ (L3318 ++ [])))))))))))))))) := Sep.steptree S3677 e3726 eG3734 sG3735 hn3736 (a3727 :: L3729) (all_cons ⟨n3731, ga3737, some_ne h3739⟩ (fun b hb => ⟨nb3732 b hb, gL3738 b hb, OwAll.there w3740 b hb⟩))
                          have h3743 := (e3726 _ _ h3683)
                          refine ⟨_, rfl, _, _, (rp_mk_list h3739 (OwAll.rpA w3740 (encO_L (encO_L encO_I)) S3742.sG)), (rp_mk_list h3743 (RpAll.mono S3742.sG (RpAll.mono eG3734 (RpAll.mono eG3718 (RpAll.mono eG3291 (RpAll.mono eG3280 (RpAll.mono eG3182 (RpAll.mono eG3122 (RpAll.mono eG3111 (RpAll.mono eG3071 (RpAll.mono eG3055 (RpAll.mono eG3045 d3024)))))))))))), _, rfl, ?_⟩
                          refine iteN (fun c3744 => ?_) (fun c3744 => ?_)
                          · have hw := cW_neg c3744 hw
                            have hw := cW_ok hw
                            exact eq_bl (k _) (hK0 _ hw).symm
                          · have hw := cW_pos c3744 hw
                            have h3745 := (e3726 _ _ h3682)
                            refine ⟨_, rfl, rfl, rfl, G3730, _, _, rfl, S3742.sG, (Rp.hide_nil (rp_mk_list h3745 (RpAll.mono S3742.sG (RpAll.mono eG3734 (RpAll.mono eG3718 (RpAll.mono eG3291 (RpAll.mono eG3280 (RpAll.mono eG3182 (RpAll.mono eG3122 (RpAll.mono eG3111 (RpAll.mono eG3071 (RpAll.mono eG3055 (RpAll.mono eG3045 (RpAll.mono eG3021 d2912)))))))))))))), cW_call hw (fun v3746 hw H3747 a3749 vs3750 L3751 G3752 n3753 nb3754 nd3755 e3748 eG3756 sG3757 hn3758 ga3759 gL3760 h3761 w3762 => ?_) (fun e he => (hE e he).elim)⟩
                            have fr3763 := S3742.free n3753
                            have S3764 : Sep _ _ _ _ H3747 (a3749 :: (L3751 ++ (a3727 :: (L3729 ++ (p2462 :: (x2474 :: (D2534 :: (D2611 :: (D2826 :: (D2928 :: (a3064 :: (a3115 :: (a3175 :: (a3284 :: (L3315 ++ (L3117 ++ (L3204 ++ (L3318 ++ [])))))))))))))))))) := Sep.steptree S3742 e3748 eG3756 sG3757 hn3758 (a3749 :: L3751) (all_cons ⟨n3753, ga3759, some_ne h3761⟩ (fun b hb => ⟨nb3754 b hb, gL3760 b hb, OwAll.there w3762 b hb⟩))
                            obtain ⟨G3765, eG3766, k3767, S3768⟩ := Sep.freezeL (L := (a3749 :: L3751)) (O' := (a3727 :: (L3729 ++ (p2462 :: (x2474 :: (D2534 :: (D2611 :: (D2826 :: (D2928 :: (a3064 :: (a3115 :: (a3175 :: (a3284 :: (L3315 ++ (L3117 ++ (L3204 ++ (L3318 ++ []))))))))))))))))) S3764 ((all_cons (.head _) ((fun b hb => (.tail _ (List.mem_append_left _ hb))) : ∀ b ∈ L3751, b ∈ (a3749 :: (L3751 ++ (a3727 :: (L3729 ++ (p2462 :: (x2474 :: (D2534 :: (D2611 :: (D2826 :: (D2928 :: (a3064 :: (a3115 :: (a3175 :: (a3284 :: (L3315 ++ (L3117 ++ (L3204 ++ (L3318 ++ [])))))))))))))))))))) : ∀ b ∈ (a3749 :: L3751), b ∈ (a3749 :: (L3751 ++ (a3727 :: (L3729 ++ (p2462 :: (x2474 :: (D2534 :: (D2611 :: (D2826 :: (D2928 :: (a3064 :: (a3115 :: (a3175 :: (a3284 :: (L3315 ++ (L3117 ++ (L3204 ++ (L3318 ++ []))))))))))))))))))) ((all_cons fr3763 (fun b hb => Sep.h0 S3764 (((fun b hb => (.tail _ (List.mem_append_left _ hb))) : ∀ b ∈ L3751, b ∈ (a3749 :: (L3751 ++ (a3727 :: (L3729 ++ (p2462 :: (x2474 :: (D2534 :: (D2611 :: (D2826 :: (D2928 :: (a3064 :: (a3115 :: (a3175 :: (a3284 :: (L3315 ++ (L3117 ++ (L3204 ++ (L3318 ++ []))))))))))))))))))) b hb) nm_nil)) : ∀ b ∈ (a3749 :: L3751), H b = none) ((all_cons ⟨(.tail _ (List.mem_append_right _ (.head _))), (nm_cons (ne_of_none h3739 n3753) (fun z => (new_ne2 nb3754 (S3742.ow _ (.head _)).2.1) _ z rfl))⟩ (all_app (fun b hb => ⟨((fun b hb => (.tail _ (List.mem_append_right _ (.tail _ (List.mem_append_left _ hb))))) : ∀ b ∈ L3729, b ∈ (a3749 :: (L3751 ++ (a3727 :: (L3729 ++ (p2462 :: (x2474 :: (D2534 :: (D2611 :: (D2826 :: (D2928 :: (a3064 :: (a3115 :: (a3175 :: (a3284 :: (L3315 ++ (L3117 ++ (L3204 ++ (L3318 ++ []))))))))))))))))))) b hb, (fun b hb => (nm_cons ((there_ne (fun b_ hb_ => (S3742.ow b_ (((fun b hb => (.tail _ (List.mem_append_left _ hb))) : ∀ b ∈ L3729, b ∈ (a3727 :: (L3729 ++ (p2462 :: (x2474 :: (D2534 :: (D2611 :: (D2826 :: (D2928 :: (a3064 :: (a3115 :: (a3175 :: (a3284 :: (L3315 ++ (L3117 ++ (L3204 ++ (L3318 ++ []))))))))))))))))) b_ hb_)).2.1) n3753) b hb) ((nl_symm (new_nl nb3754 (fun b_ hb_ => (S3742.ow b_ (((fun b hb => (.tail _ (List.mem_append_left _ hb))) : ∀ b ∈ L3729, b ∈ (a3727 :: (L3729 ++ (p2462 :: (x2474 :: (D2534 :: (D2611 :: (D2826 :: (D2928 :: (a3064 :: (a3115 :: (a3175 :: (a3284 :: (L3315 ++ (L3117 ++ (L3204 ++ (L3318 ++ []))))))))))))))))) b_ hb_)).2.1))) b hb))) b hb⟩) (all_cons ⟨(.tail _ (List.mem_append_right _ (.tail _ (List.mem_append_right _ (.head _))))), (nm_cons (ne_of_none (e3726 _ _ h3678) n3753) (fun z => (new_ne2 nb3754 (S3742.ow _ (.tail _ (List.mem_append_right _ (.head _)))).2.1) _ z rfl))⟩ (all_cons ⟨(.tail _ (List.mem_append_right _ (.tail _ (List.mem_append_right _ (.tail _ (.head _)))))), (nm_cons (ne_of_none (e3726 _ _ h3679) n3753) (fun z => (new_ne2 nb3754 (S3742.ow _ (.tail _ (List.mem_append_right _ (.tail _ (.head _))))).2.1) _ z rfl))⟩ (all_cons ⟨(.tail _ (List.mem_append_right _ (.tail _ (List.mem_append_right _ (.tail _ (.tail _ (.head _))))))), (nm_cons (ne_of_none (e3726 _ _ h3680) n3753) (fun z => (new_ne2 nb3754 (S3742.ow _ (.tail _ (List.mem_append_right _ (.tail _ (.tail _ (.head _)))))).2.1) _ z rfl))⟩ (all_cons ⟨(.tail _ (List.mem_append_right _ (.tail _ (List.mem_append_right _ (.tail _ (.tail _ (.tail _ (.head _)))))))), (nm_cons (ne_of_none (e3726 _ _ h3681) n3753) (fun z => (new_ne2 nb3754 (S3742.ow _ (.tail _ (List.mem_append_right _ (.tail _ (.tail _ (.tail _ (.head _))))))).2.1) _ z rfl))⟩ (all_cons ⟨(.tail _ (List.mem_append_right _ (.tail _ (List.mem_append_right _ (.tail _ (.tail _ (.tail _ (.tail _ (.head _))))))))), (nm_cons (ne_of_none h3745 n3753) (fun z => (new_ne2 nb3754 (S3742.ow _ (.tail _ (List.mem_append_right _ (.tail _ (.tail _ (.tail _ (.tail _ (.head _)))))))).2.1) _ z rfl))⟩ (all_cons ⟨(.tail _ (List.mem_append_right _ (.tail _ (List.mem_append_right _ (.tail _ (.tail _ (.tail _ (.tail _ (.tail _ (.head _)))))))))), (nm_cons (ne_of_none h3743 n3753) (fun z => (new_ne2 nb3754 (S3742.ow _ (.tail _ (List.mem_append_right _ (.tail _ (.tail _ (.tail _ (.tail _ (.tail _ (.head _))))))))).2.1) _ z rfl))⟩ (all_cons ⟨(.tail _ (List.mem_append_right _ (.tail _ (List.mem_append_right _ (.tail _ (.tail _ (.tail _ (.tail _ (.tail _ (.tail _ (.head _))))))))))), (nm_cons (ne_of_none (e3726 _ _ h3684) n3753) (fun z => (new_ne2 nb3754 (S3742.ow _ (.tail _ (List.mem_append_right _ (.tail _ (.tail _ (.tail _ (.tail _ (.tail _ (.tail _ (.head _)))))))))).2.1) _ z rfl))⟩ (all_cons ⟨(.tail _ (List.mem_append_right _ (.tail _ (List.mem_append_right _ (.tail _ (.tail _ (.tail _ (.tail _ (.tail _ (.tail _ (.tail _ (.head _)))))))))))), (nm_cons (ne_of_none (e3726 _ _ h3685) n3753) (fun z => (new_ne2 nb3754 (S3742.ow _ (.tail _ (List.mem_append_right _ (.tail _ (.tail _ (.tail _ (.tail _ (.tail _ (.tail _ (.tail _ (.head _))))))))))).2.1) _ z rfl))⟩ (all_cons ⟨(.tail _ (List.mem_append_right _ (.tail _ (List.mem_append_right _ (.tail _ (.tail _ (.tail _ (.tail _ (.tail _ (.tail _ (.tail _ (.tail _ (.head _))))))))))))), (nm_cons (ne_of_none (e3726 _ _ h3686) n3753) (fun z => (new_ne2 nb3754 (S3742.ow _ (.tail _ (List.mem_append_right _ (.tail _ (.tail _ (.tail _ (.tail _ (.tail _ (.tail _ (.tail _ (.tail _ (.head _)))))))))))).2.1) _ z rfl))⟩ (all_cons ⟨(.tail _ (List.mem_append_right _ (.tail _ (List.mem_append_right _ (.tail _ (.tail _ (.tail _ (.tail _ (.tail _ (.tail _ (.tail _ (.tail _ (.tail _ (.head _)))))))))))))), (nm_cons (ne_of_none (e3726 _ _ h3687) n3753) (fun z => (new_ne2 nb3754 (S3742.ow _ (.tail _ (List.mem_append_right _ (.tail _ (.tail _ (.tail _ (.tail _ (.tail _ (.tail _ (.tail _ (.tail _ (.tail _ (.head _))))))))))))).2.1) _ z rfl))⟩ (all_app (fun b hb => ⟨((fun b hb => (.tail _ (List.mem_append_right _ (.tail _ (List.mem_append_right _ (.tail _ (.tail _ (.tail _ (.tail _ (.tail _ (.tail _ (.tail _ (.tail _ (.tail _ (.tail _ (List.mem_append_left _ hb)))))))))))))))) : ∀ b ∈ L3315, b ∈ (a3749 :: (L3751 ++ (a3727 :: (L3729 ++ (p2462 :: (x2474 :: (D2534 :: (D2611 :: (D2826 :: (D2928 :: (a3064 :: (a3115 :: (a3175 :: (a3284 :: (L3315 ++ (L3117 ++ (L3204 ++ (L3318 ++ []))))))))))))))))))) b hb, (fun b hb => (nm_cons ((there_ne (fun b_ hb_ => (S3742.ow b_ (((fun b hb => (.tail _ (List.mem_append_right _ (.tail _ (.tail _ (.tail _ (.tail _ (.tail _ (.tail _ (.tail _ (.tail _ (.tail _ (.tail _ (List.mem_append_left _ hb)))))))))))))) : ∀ b ∈ L3315, b ∈ (a3727 :: (L3729 ++ (p2462 :: (x2474 :: (D2534 :: (D2611 :: (D2826 :: (D2928 :: (a3064 :: (a3115 :: (a3175 :: (a3284 :: (L3315 ++ (L3117 ++ (L3204 ++ (L3318 ++ []))))))))))))))))) b_ hb_)).2.1) n3753) b hb) ((nl_symm (new_nl nb3754 (fun b_ hb_ => (S3742.ow b_ (((fun b hb => (.tail _ (List.mem_append_right _ (.tail _ (.tail _ (.tail _ (.tail _ (.tail _ (.tail _ (.tail _ (.tail _ (.tail _ (.tail _ (List.mem_append_left _ hb)))))))))))))) : ∀ b ∈ L3315, b ∈ (a3727 :: (L3729 ++ (p2462 :: (x2474 :: (D2534 :: (D2611 :: (D2826 :: (D2928 :: (a3064 :: (a3115 :: (a3175 :: (a3284 :: (L3315 ++ (L3117 ++ (L3204 ++ (L3318 ++ []))))))))))))))))) b_ hb_)).2.1))) b hb))) b hb⟩) (all_app (fun b hb => ⟨((fun b hb => (.tail _ (List.mem_append_right _ (.tail _ (List.mem_append_right _ (.tail _ (.tail _ (.tail _ (.tail _ (.tail _ (.tail _ (.tail _ (.tail _ (.tail _ (.tail _ (List.mem_append_right _ (List.mem_append_left _ hb))))))))))))))))) : ∀ b ∈ L3117, b ∈ (a3749 :: (L3751 ++ (a3727 :: (L3729 ++ (p2462 :: (x2474 :: (D2534 :: (D2611 :: (D2826 :: (D2928 :: (a3064 :: (a3115 :: (a3175 :: (a3284 :: (L3315 ++ (L3117 ++ (L3204 ++ (L3318 ++ []))))))))))))))))))) b hb, (fun b hb => (nm_cons ((there_ne (fun b_ hb_ => (S3742.ow b_ (((fun b hb => (.tail _ (List.mem_append_right _ (.tail _ (.tail _ (.tail _ (.tail _ (.tail _ (.tail _ (.tail _ (.tail _ (.tail _ (.tail _ (List.mem_append_right _ (List.mem_append_left _ hb))))))))))))))) : ∀ b ∈ L3117, b ∈ (a3727 :: (L3729 ++ (p2462 :: (x2474 :: (D2534 :: (D2611 :: (D2826 :: (D2928 :: (a3064 :: (a3115 :: (a3175 :: (a3284 :: (L3315 ++ (L3117 ++ (L3204 ++ (L3318 ++ []))))))))))))))))) b_ hb_)).2.1) n3753) b hb) ((nl_symm (new_nl nb3754 (fun b_ hb_ => (S3742.ow b_ (((fun b hb => (.tail _ (List.mem_append_right _ (.tail _ (.tail _ (.tail _ (.tail _ (.tail _ (.tail _ (.tail _ (.tail _ (.tail _ (.tail _ (List.mem_append_right _ (List.mem_append_left _ hb))))))))))))))) : ∀ b ∈ L3117, b ∈ (a3727 :: (L3729 ++ (p2462 :: (x2474 :: (D2534 :: (D2611 :: (D2826 :: (D2928 :: (a3064 :: (a3115 :: (a3175 :: (a3284 :: (L3315 ++ (L3117 ++ (L3204 ++ (L3318 ++ []))))))))))))))))) b_ hb_)).2.1))) b hb))) b hb⟩) (all_app (fun b hb => ⟨((fun b hb => (.tail _ (List.mem_append_right _ (.tail _ (List.mem_append_right _ (.tail _ (.tail _ (.tail _ (.tail _ (.tail _ (.tail _ (.tail _ (.tail _ (.tail _ (.tail _ (List.mem_append_right _ (List.mem_append_right _ (List.mem_append_left _ hb)))))))))))))))))) : ∀ b ∈ L3204, b ∈ (a3749 :: (L3751 ++ (a3727 :: (L3729 ++ (p2462 :: (x2474 :: (D2534 :: (D2611 :: (D2826 :: (D2928 :: (a3064 :: (a3115 :: (a3175 :: (a3284 :: (L3315 ++ (L3117 ++ (L3204 ++ (L3318 ++ []))))))))))))))))))) b hb, (fun b hb => (nm_cons ((there_ne (fun b_ hb_ => (S3742.ow b_ (((fun b hb => (.tail _ (List.mem_append_right _ (.tail _ (.tail _ (.tail _ (.tail _ (.tail _ (.tail _ (.tail _ (.tail _ (.tail _ (.tail _ (List.mem_append_right _ (List.mem_append_right _ (List.mem_append_left _ hb)))))))))))))))) : ∀ b ∈ L3204, b ∈ (a3727 :: (L3729 ++ (p2462 :: (x2474 :: (D2534 :: (D2611 :: (D2826 :: (D2928 :: (a3064 :: (a3115 :: (a3175 :: (a3284 :: (L3315 ++ (L3117 ++ (L3204 ++ (L3318 ++ []))))))))))))))))) b_ hb_)).2.1) n3753) b hb) ((nl_symm (new_nl nb3754 (fun b_ hb_ => (S3742.ow b_ (((fun b hb => (.tail _ (List.mem_append_right _ (.tail _ (.tail _ (.tail _ (.tail _ (.tail _ (.tail _ (.tail _ (.tail _ (.tail _ (.tail _ (List.mem_append_right _ (List.mem_append_right _ (List.mem_append_left _ hb)))))))))))))))) : ∀ b ∈ L3204, b ∈ (a3727 :: (L3729 ++ (p2462 :: (x2474 :: (D2534 :: (D2611 :: (D2826 :: (D2928 :: (a3064 :: (a3115 :: (a3175 :: (a3284 :: (L3315 ++ (L3117 ++ (L3204 ++ (L3318 ++ []))))))))))))))))) b_ hb_)).2.1))) b hb))) b hb⟩) (all_app (fun b hb => ⟨((fun b hb => (.tail _ (List.mem_append_right _ (.tail _ (List.mem_append_right _ (.tail _ (.tail _ (.tail _ (.tail _ (.tail _ (.tail _ (.tail _ (.tail _ (.tail _ (.tail _ (List.mem_append_right _ (List.mem_append_right _ (List.mem_append_right _ (List.mem_append_left _ hb))))))))))))))))))) : ∀ b ∈ L3318, b ∈ (a3749 :: (L3751 ++ (a3727 :: (L3729 ++ (p2462 :: (x2474 :: (D2534 :: (D2611 :: (D2826 :: (D2928 :: (a3064 :: (a3115 :: (a3175 :: (a3284 :: (L3315 ++ (L3117 ++ (L3204 ++ (L3318 ++ []))))))))))))))))))) b hb, (fun b hb => (nm_cons ((there_ne (fun b_ hb_ => (S3742.ow b_ (((fun b hb => (.tail _ (List.mem_append_right _ (.tail _ (.tail _ (.tail _ (.tail _ (.tail _ (.tail _ (.tail _ (.tail _ (.tail _ (.tail _ (List.mem_append_right _ (List.mem_append_right _ (List.mem_append_right _ (List.mem_append_left _ hb))))))))))))))))) : ∀ b ∈ L3318, b ∈ (a3727 :: (L3729 ++ (p2462 :: (x2474 :: (D2534 :: (D2611 :: (D2826 :: (D2928 :: (a3064 :: (a3115 :: (a3175 :: (a3284 :: (L3315 ++ (L3117 ++ (L3204 ++ (L3318 ++ []))))))))))))))))) b_ hb_)).2.1) n3753) b hb) ((nl_symm (new_nl nb3754 (fun b_ hb_ => (S3742.ow b_ (((fun b hb => (.tail _ (List.mem_append_right _ (.tail _ (.tail _ (.tail _ (.tail _ (.tail _ (.tail _ (.tail _ (.tail _ (.tail _ (.tail _ (List.mem_append_right _ (List.mem_append_right _ (List.mem_append_right _ (List.mem_append_left _ hb))))))))))))))))) : ∀ b ∈ L3318, b ∈ (a3727 :: (L3729 ++ (p2462 :: (x2474 :: (D2534 :: (D2611 :: (D2826 :: (D2928 :: (a3064 :: (a3115 :: (a3175 :: (a3284 :: (L3315 ++ (L3117 ++ (L3204 ++ (L3318 ++ []))))))))))))))))) b_ hb_)).2.1))) b hb))) b hb⟩) all_nil)))))))))))))))))
                            have hg3769 := k3767 _ List.mem_cons_self _ h3761
                            have d3770 := OwAll.rpH w3762 (encO_L (encO_L encO_I)) eG3766 (fun b hb => k3767 b (List.mem_cons_of_mem _ hb))
                            refine ⟨fun σ H' => ∃ (p3778 : Addr) (cut_3777 : (List (List (List Int)))) (vs3779 : List V) (L3780 : List Addr) (G' : Hp), σ = [some (V.ref a_script), some (V.ref p2462), some (V.int ((1 + (itD (v2459) (0))))), some (V.int ((1 + (itD (v2459) (1))))), some (V.ref x2474), some (V.int (top_2496)), some (V.int (count_2516)), some (V.ref D2534), some (V.ref D2611), some (V.ref a2815), some (V.ref D2826), some (V.ref D2928), some (V.ref a3038), some (V.ref a3064), some (V.ref a3115), some (V.ref a3175), some (V.ref a3284), u3319, u3320, some (V.ref a3749), some (V.ref p3778), none, none, none] ∧ Same G3765 G' ∧ Sep [] H H G' H' (p2462 :: (x2474 :: (D2534 :: (D2611 :: (D2826 :: (D2928 :: (a3064 :: (a3115 :: (a3175 :: (a3284 :: (p3778 :: (L3315 ++ (L3117 ++ (L3204 ++ (L3318 ++ (L3780 ++ [])))))))))))))))) ∧ H' p2462 = some (.lst ((v2459 : (List Int)).map V.int)) ∧ H' x2474 = some (.ins AD.c_Format dx2475 [("width", V.int (v2485.width)), ("height", V.int (v2485.height)), ("depth", V.int (v2485.depth)), ("chroma", V.int (v2485.chroma))]) ∧ H' D2534 = some (.lst (vs2595)) ∧ H' D2611 = some (.lst (vs2677)) ∧ H' D2826 = some (.lst (vs2911)) ∧ H' D2928 = some (.lst (vs3023)) ∧ H' a3064 = some (.lst (vs3314)) ∧ H' a3115 = some (.lst (vs3116)) ∧ H' a3175 = some (.lst (vs3203)) ∧ H' a3284 = some (.lst (vs3317)) ∧ H' p3778 = some (.lst (vs3779)) ∧ H p3778 = none ∧ p3778 ≠ p2462 ∧ p3778 ≠ x2474 ∧ p3778 ≠ D2534 ∧ p3778 ≠ D2611 ∧ p3778 ≠ D2826 ∧ p3778 ≠ D2928 ∧ p3778 ≠ a3064 ∧ p3778 ≠ a3115 ∧ p3778 ≠ a3175 ∧ p3778 ≠ a3284 ∧ (∀ b ∈ L3315, b ≠ p3778) ∧ (∀ b ∈ L3117, b ≠ p3778) ∧ (∀ b ∈ L3204, b ≠ p3778) ∧ (∀ b ∈ L3318, b ≠ p3778) ∧ (∀ b ∈ L3780, b ≠ p3778) ∧ (∀ b ∈ L3780, b ≠ p2462) ∧ (∀ b ∈ L3780, b ≠ x2474) ∧ (∀ b ∈ L3780, b ≠ D2534) ∧ (∀ b ∈ L3780, b ≠ D2611) ∧ (∀ b ∈ L3780, b ≠ D2826) ∧ (∀ b ∈ L3780, b ≠ D2928) ∧ (∀ b ∈ L3780, b ≠ a3064) ∧ (∀ b ∈ L3780, b ≠ a3115) ∧ (∀ b ∈ L3780, b ≠ a3175) ∧ (∀ b ∈ L3780, b ≠ a3284) ∧ (∀ b ∈ L3780, b ∉ L3315) ∧ (∀ b ∈ L3780, b ∉ L3117) ∧ (∀ b ∈ L3780, b ∉ L3204) ∧ (∀ b ∈ L3780, b ∉ L3318) ∧ OwAll G' H' L3315 (vs3314) ((actual_3313 : (List (List (List Int)))).map (oL (oL oI))) ∧ OwAll G' H' L3117 (vs3116) ((setL (v3112) (0) (setL ((itD (v3112) (0))) (0) (setL ((itD ((itD (v3112) (0))) (0))) (0) ((top_2496 + 1)))) : (List (List (List Int)))).map (oL (oL oI))) ∧ OwAll G' H' L3204 (vs3203) ((spoilt_3202 : (List (List (List Int)))).map (oL (oL oI))) ∧ OwAll G' H' L3318 (vs3317) ((longer_3316 : (List (List (List Int)))).map (oL (oL oI))) ∧ OwAll G' H' L3780 (vs3779) ((cut_3777 : (List (List (List Int)))).map (oL (oL oI))) ∧ cW (F_law_k13 (v2459) (v2485) (count_2516) (acc2910) (v3746) cut_3777) KK EE, ?_, ?_⟩
                            · obtain ⟨K3781, hK3782, hw⟩ := cW_push hw
                              obtain ⟨g3783, hw⟩ := cW_grd hw
                              obtain ⟨K3787, hK3788, hw⟩ := cW_push hw
                              refine ⟨_, rfl, _, rfl, g3783.1, g3783.2, fun D3789 n3790 => lc_range (lo := 0) (n := Int.toNat (count_2516)) (fun i H' => ∃ (G' : Hp) (acc3792 : (List (List (List Int)))) (vs3793 : List V) (L3791 : List Addr), Same G3765 G' ∧ Sep [] H H G' H' (D3789 :: (L3791 ++ (a3064 :: (a3115 :: (a3175 :: (a3284 :: (p2462 :: (x2474 :: (D2534 :: (D2611 :: (D2826 :: (D2928 :: (L3315 ++ (L3117 ++ (L3204 ++ (L3318 ++ [])))))))))))))))) ∧ H' a3064 = some (.lst (vs3314)) ∧ H' a3115 = some (.lst (vs3116)) ∧ H' a3175 = some (.lst (vs3203)) ∧ H' a3284 = some (.lst (vs3317)) ∧ H' p2462 = some (.lst ((v2459 : (List Int)).map V.int)) ∧ H' x2474 = some (.ins AD.c_Format dx2475 [("width", V.int (v2485.width)), ("height", V.int (v2485.height)), ("depth", V.int (v2485.depth)), ("chroma", V.int (v2485.chroma))]) ∧ H' D2534 = some (.lst (vs2595)) ∧ H' D2611 = some (.lst (vs2677)) ∧ H' D2826 = some (.lst (vs2911)) ∧ H' D2928 = some (.lst (vs3023)) ∧ H' D3789 = some (.lst vs3793) ∧ OwAll G' H' L3315 (vs3314) ((actual_3313 : (List (List (List Int)))).map (oL (oL oI))) ∧ OwAll G' H' L3117 (vs3116) ((setL (v3112) (0) (setL ((itD (v3112) (0))) (0) (setL ((itD ((itD (v3112) (0))) (0))) (0) ((top_2496 + 1)))) : (List (List (List Int)))).map (oL (oL oI))) ∧ OwAll G' H' L3204 (vs3203) ((spoilt_3202 : (List (List (List Int)))).map (oL (oL oI))) ∧ OwAll G' H' L3318 (vs3317) ((longer_3316 : (List (List (List Int)))).map (oL (oL oI))) ∧ OwAll G' H' L3791 vs3793 ((acc3792 : (List (List (List Int)))).map (oL (oL oI))) ∧ (∀ b ∈ L3791, H3747 b = none) ∧ (∀ b ∈ L3791, b ≠ D3789) ∧ Same H3747 H' ∧ cW (mapA (List.drop i (rng (0) (Int.toNat (count_2516)))) acc3792 (fun x => noEr (F_law_c14 (acc2594) (v3746) x))) K3787 EE) ?_ ?_ ?_⟩
                              · generalize g3794 : upd H3747 D3789 _ = H3795
                                obtain ⟨e3796, h3797⟩ := gen_new n3790 g3794
                                have fr3798 := S3768.free n3790
                                have S3799 := S3768.new n3790 e3796 h3797 fr3798
                                have h3800 := (e3796 _ _ (e3748 _ _ (e3726 _ _ h3684)))
                                have h3801 := (e3796 _ _ (e3748 _ _ (e3726 _ _ h3685)))
                                have h3802 := (e3796 _ _ (e3748 _ _ (e3726 _ _ h3686)))
                                have h3803 := (e3796 _ _ (e3748 _ _ (e3726 _ _ h3687)))
                                have h3804 := (e3796 _ _ (e3748 _ _ (e3726 _ _ h3678)))
                                have h3805 := (e3796 _ _ (e3748 _ _ (e3726 _ _ h3679)))
                                have h3806 := (e3796 _ _ (e3748 _ _ (e3726 _ _ h3680)))
                                have h3807 := (e3796 _ _ (e3748 _ _ (e3726 _ _ h3681)))
                                have h3808 := (e3796 _ _ (e3748 _ _ h3745))
                                have h3809 := (e3796 _ _ (e3748 _ _ h3743))
                                have w3810 : OwAll G3765 H3795 L3315 (vs3314) ((actual_3313 : (List (List (List Int)))).map (oL (oL oI))) := (OwAll.mono (Same.trans (Same.trans eG3734 eG3756) eG3766) keeps_refl (OwAll.mono (Same.refl _) (keeps_same e3796) (OwAll.mono (Same.refl _) (keeps_same e3748) (OwAll.mono (Same.refl _) (keeps_same e3726) w3713))))
                                have w3811 : OwAll G3765 H3795 L3117 (vs3116) ((setL (v3112) (0) (setL ((itD (v3112) (0))) (0) (setL ((itD ((itD (v3112) (0))) (0))) (0) ((top_2496 + 1)))) : (List (List (List Int)))).map (oL (oL oI))) := (OwAll.mono (Same.trans (Same.trans eG3734 eG3756) eG3766) keeps_refl (OwAll.mono (Same.refl _) (keeps_same e3796) (OwAll.mono (Same.refl _) (keeps_same e3748) (OwAll.mono (Same.refl _) (keeps_same e3726) w3714))))
                                have w3812 : OwAll G3765 H3795 L3204 (vs3203) ((spoilt_3202 : (List (List (List Int)))).map (oL (oL oI))) := (OwAll.mono (Same.trans (Same.trans eG3734 eG3756) eG3766) keeps_refl (OwAll.mono (Same.refl _) (keeps_same e3796) (OwAll.mono (Same.refl _) (keeps_same e3748) (OwAll.mono (Same.refl _) (keeps_same e3726) w3715))))
                                have w3813 : OwAll G3765 H3795 L3318 (vs3317) ((longer_3316 : (List (List (List Int)))).map (oL (oL oI))) := (OwAll.mono (Same.trans (Same.trans eG3734 eG3756) eG3766) keeps_refl (OwAll.mono (Same.refl _) (keeps_same e3796) (OwAll.mono (Same.refl _) (keeps_same e3748) (OwAll.mono (Same.refl _) (keeps_same e3726) w3716))))
                                exact ⟨_, [], [], [], Same.refl _, (S3799.sub (all_cons (.head _) (all_app (L := []) all_nil (all_cons (.tail _ (.tail _ (List.mem_append_right _ (.tail _ (.tail _ (.tail _ (.tail _ (.tail _ (.tail _ (.head _)))))))))) (all_cons (.tail _ (.tail _ (List.mem_append_right _ (.tail _ (.tail _ (.tail _ (.tail _ (.tail _ (.tail _ (.tail _ (.head _))))))))))) (all_cons (.tail _ (.tail _ (List.mem_append_right _ (.tail _ (.tail _ (.tail _ (.tail _ (.tail _ (.tail _ (.tail _ (.tail _ (.head _)))))))))))) (all_cons (.tail _ (.tail _ (List.mem_append_right _ (.tail _ (.tail _ (.tail _ (.tail _ (.tail _ (.tail _ (.tail _ (.tail _ (.tail _ (.head _))))))))))))) (all_cons (.tail _ (.tail _ (List.mem_append_right _ (.head _)))) (all_cons (.tail _ (.tail _ (List.mem_append_right _ (.tail _ (.head _))))) (all_cons (.tail _ (.tail _ (List.mem_append_right _ (.tail _ (.tail _ (.head _)))))) (all_cons (.tail _ (.tail _ (List.mem_append_right _ (.tail _ (.tail _ (.tail _ (.head _))))))) (all_cons (.tail _ (.tail _ (List.mem_append_right _ (.tail _ (.tail _ (.tail _ (.tail _ (.head _)))))))) (all_cons (.tail _ (.tail _ (List.mem_append_right _ (.tail _ (.tail _ (.tail _ (.tail _ (.tail _ (.head _))))))))) (all_app ((fun b hb => (.tail _ (.tail _ (List.mem_append_right _ (.tail _ (.tail _ (.tail _ (.tail _ (.tail _ (.tail _ (.tail _ (.tail _ (.tail _ (.tail _ (List.mem_append_left _ hb))))))))))))))) : ∀ b ∈ L3315, b ∈ (D3789 :: (a3727 :: (L3729 ++ (p2462 :: (x2474 :: (D2534 :: (D2611 :: (D2826 :: (D2928 :: (a3064 :: (a3115 :: (a3175 :: (a3284 :: (L3315 ++ (L3117 ++ (L3204 ++ (L3318 ++ [])))))))))))))))))) (all_app ((fun b hb => (.tail _ (.tail _ (List.mem_append_right _ (.tail _ (.tail _ (.tail _ (.tail _ (.tail _ (.tail _ (.tail _ (.tail _ (.tail _ (.tail _ (List.mem_append_right _ (List.mem_append_left _ hb)))))))))))))))) : ∀ b ∈ L3117, b ∈ (D3789 :: (a3727 :: (L3729 ++ (p2462 :: (x2474 :: (D2534 :: (D2611 :: (D2826 :: (D2928 :: (a3064 :: (a3115 :: (a3175 :: (a3284 :: (L3315 ++ (L3117 ++ (L3204 ++ (L3318 ++ [])))))))))))))))))) (all_app ((fun b hb => (.tail _ (.tail _ (List.mem_append_right _ (.tail _ (.tail _ (.tail _ (.tail _ (.tail _ (.tail _ (.tail _ (.tail _ (.tail _ (.tail _ (List.mem_append_right _ (List.mem_append_right _ (List.mem_append_left _ hb))))))))))))))))) : ∀ b ∈ L3204, b ∈ (D3789 :: (a3727 :: (L3729 ++ (p2462 :: (x2474 :: (D2534 :: (D2611 :: (D2826 :: (D2928 :: (a3064 :: (a3115 :: (a3175 :: (a3284 :: (L3315 ++ (L3117 ++ (L3204 ++ (L3318 ++ [])))))))))))))))))) (all_app ((fun b hb => (.tail _ (.tail _ (List.mem_append_right _ (.tail _ (.tail _ (.tail _ (.tail _ (.tail _ (.tail _ (.tail _ (.tail _ (.tail _ (.tail _ (List.mem_append_right _ (List.mem_append_right _ (List.mem_append_right _ (List.mem_append_left _ hb)))))))))))))))))) : ∀ b ∈ L3318, b ∈ (D3789 :: (a3727 :: (L3729 ++ (p2462 :: (x2474 :: (D2534 :: (D2611 :: (D2826 :: (D2928 :: (a3064 :: (a3115 :: (a3175 :: (a3284 :: (L3315 ++ (L3117 ++ (L3204 ++ (L3318 ++ [])))))))))))))))))) all_nil))))))))))))))))), h3800, h3801, h3802, h3803, h3804, h3805, h3806, h3807, h3808, h3809, h3797, w3810, w3811, w3812, w3813, OwAll.nil, all_nil, all_nil, e3796, hw⟩
                              · intro i H3814 hi hw
                                obtain ⟨G3817, acc3819, vs3820, L3822, eG3818, S3815, h3826, h3827, h3828, h3829, h3830, h3831, h3832, h3833, h3834, h3835, h3816, w3836, w3837, w3838, w3839, d3821, nb3823, nd3824, eo3825, hw⟩ := hw
                                obtain ⟨z3840, hw⟩ := cW_mapA (rng_get hi) hw
                                generalize (0 + (i : Int)) = x3841 at hw ⊢
                                have hw := cW_noEr hw
                                have hw : cW (F_law_c14 (acc2594) (v3746) (x3841)) _ (fun _ => False) := hw
                                unfold F_law_c14 at hw
                                refine ⟨rfl, ?_⟩
                                refine tyes_go ?_
                                obtain ⟨g3843, hw⟩ := cW_grd hw
                                obtain ⟨v3844, a3845, r3846⟩ := RpAll.ixD (k := x3841) (RpAll.mono eG3818 d3770) g3843
                                obtain ⟨a3847, vs3848, rfl, h3849, d3850⟩ := rp_list r3846
                                obtain ⟨g3851, hw⟩ := cW_grd hw
                                obtain ⟨v3852, a3853, r3854⟩ := RpAll.ixD (k := x3841) (RpAll.mono eG3818 (RpAll.mono eG3766 (RpAll.mono eG3756 (RpAll.mono eG3734 (RpAll.mono eG3718 (RpAll.mono eG3291 (RpAll.mono eG3280 (RpAll.mono eG3182 (RpAll.mono eG3122 (RpAll.mono eG3111 (RpAll.mono eG3071 (RpAll.mono eG3055 (RpAll.mono eG3045 (RpAll.mono eG3021 (RpAll.mono eG2909 (RpAll.mono eG2814 (RpAll.mono eG2675 d2596))))))))))))))))) g3851
                                obtain ⟨a3855, v3857, v3858, rfl, h3856, r3859, r3860⟩ := rp_tup2 r3854
                                obtain rfl := rp_int r3859
                                obtain rfl := rp_int r3860
                                refine ⟨_, rfl, _, rfl, _, _, _, _, rfl, rfl, (SqL.of (S3815.sG _ _ (eG3818 _ _ hg3769))), a3845, _, rfl, _, rfl, _, _, _, _, rfl, rfl, (SqL.of h3832), a3853, _, _, _, _, rfl, rfl, (SqT.of (S3815.sG _ _ h3856)), rfl, _, rfl, _, _, rfl, (SqL.of (S3815.sG _ _ h3849)), fun p3861 n3862 => ?_⟩
                                generalize g3863 : upd H3814 p3861 _ = H3864
                                obtain ⟨e3865, h3866⟩ := gen_new n3862 g3863
                                have h3867 : H3864 p3861 = some (.lst (cutV (vs3848) none (some ((itD (acc2594) (x3841)).2)))) := h3866
                                have fr3868 := S3815.free n3862
                                have S3869 := S3815.new n3862 e3865 h3867 fr3868
                                have d3870 : RpAll G3817 (cutV (vs3848) none (some ((itD (acc2594) (x3841)).2))) ((cutL ((itD (v3746) (x3841))) none (some ((itD (acc2594) (x3841)).2)) : (List (List Int))).map (encL PyData.int)) := cut_all none (some ((itD (acc2594) (x3841)).2)) d3850
                                obtain ⟨K3874, hK3875, hw⟩ := cW_push hw
                                refine ⟨_, rfl, ⟨_, (SqL.of h3867)⟩, fun D3876 n3877 => lc_list (K := K) (a := p3861) (xs := cutV (vs3848) none (some ((itD (acc2594) (x3841)).2))) (fun i2 H' => ∃ (G' : Hp) (acc3879 : (List (List Int))) (vs3880 : List V) (L3878 : List Addr), Same G3817 G' ∧ Sep [] H H G' H' (D3876 :: (L3878 ++ (a3064 :: (a3115 :: (a3175 :: (a3284 :: (D3789 :: (p2462 :: (x2474 :: (D2534 :: (D2611 :: (D2826 :: (D2928 :: (p3861 :: (L3315 ++ (L3117 ++ (L3204 ++ (L3318 ++ (L3822 ++ []))))))))))))))))))) ∧ H' a3064 = some (.lst (vs3314)) ∧ H' a3115 = some (.lst (vs3116)) ∧ H' a3175 = some (.lst (vs3203)) ∧ H' a3284 = some (.lst (vs3317)) ∧ H' D3789 = some (.lst (vs3820)) ∧ H' p2462 = some (.lst ((v2459 : (List Int)).map V.int)) ∧ H' x2474 = some (.ins AD.c_Format dx2475 [("width", V.int (v2485.width)), ("height", V.int (v2485.height)), ("depth", V.int (v2485.depth)), ("chroma", V.int (v2485.chroma))]) ∧ H' D2534 = some (.lst (vs2595)) ∧ H' D2611 = some (.lst (vs2677)) ∧ H' D2826 = some (.lst (vs2911)) ∧ H' D2928 = some (.lst (vs3023)) ∧ H' p3861 = some (.lst (cutV (vs3848) none (some ((itD (acc2594) (x3841)).2)))) ∧ H' D3876 = some (.lst vs3880) ∧ OwAll G' H' L3315 (vs3314) ((actual_3313 : (List (List (List Int)))).map (oL (oL oI))) ∧ OwAll G' H' L3117 (vs3116) ((setL (v3112) (0) (setL ((itD (v3112) (0))) (0) (setL ((itD ((itD (v3112) (0))) (0))) (0) ((top_2496 + 1)))) : (List (List (List Int)))).map (oL (oL oI))) ∧ OwAll G' H' L3204 (vs3203) ((spoilt_3202 : (List (List (List Int)))).map (oL (oL oI))) ∧ OwAll G' H' L3318 (vs3317) ((longer_3316 : (List (List (List Int)))).map (oL (oL oI))) ∧ OwAll G' H' L3822 (vs3820) ((acc3819 : (List (List (List Int)))).map (oL (oL oI))) ∧ OwAll G' H' L3878 vs3880 ((acc3879 : (List (List Int))).map (oL oI)) ∧ (∀ b ∈ L3878, H3864 b = none) ∧ (∀ b ∈ L3878, b ≠ D3876) ∧ Same H3864 H' ∧ cW (mapA (List.drop i2 (cutL ((itD (v3746) (x3841))) none (some ((itD (acc2594) (x3841)).2)))) acc3879 (fun x => noEr (F_law_c15 (acc2594) (x3841) x))) K3874 (fun _ => False)) ?_ ?_ ?_ ?_⟩
                                · generalize g3881 : upd H3864 D3876 _ = H3882
                                  obtain ⟨e3883, h3884⟩ := gen_new n3877 g3881
                                  have fr3885 := S3869.free n3877
                                  have S3886 := S3869.new n3877 e3883 h3884 fr3885
                                  have h3887 := (e3883 _ _ (e3865 _ _ h3826))
                                  have h3888 := (e3883 _ _ (e3865 _ _ h3827))
                                  have h3889 := (e3883 _ _ (e3865 _ _ h3828))
                                  have h3890 := (e3883 _ _ (e3865 _ _ h3829))
                                  have h3891 := (e3883 _ _ (e3865 _ _ h3816))
                                  have h3892 := (e3883 _ _ (e3865 _ _ h3830))
                                  have h3893 := (e3883 _ _ (e3865 _ _ h3831))
                                  have h3894 := (e3883 _ _ (e3865 _ _ h3832))
                                  have h3895 := (e3883 _ _ (e3865 _ _ h3833))
                                  have h3896 := (e3883 _ _ (e3865 _ _ h3834))
                                  have h3897 := (e3883 _ _ (e3865 _ _ h3835))
                                  have h3898 := (e3883 _ _ h3867)
                                  have w3899 : OwAll G3817 H3882 L3315 (vs3314) ((actual_3313 : (List (List (List Int)))).map (oL (oL oI))) := (OwAll.mono (Same.refl _) (keeps_same e3883) (OwAll.mono (Same.refl _) (keeps_same e3865) w3836))
                                  have w3900 : OwAll G3817 H3882 L3117 (vs3116) ((setL (v3112) (0) (setL ((itD (v3112) (0))) (0) (setL ((itD ((itD (v3112) (0))) (0))) (0) ((top_2496 + 1)))) : (List (List (List Int)))).map (oL (oL oI))) := (OwAll.mono (Same.refl _) (keeps_same e3883) (OwAll.mono (Same.refl _) (keeps_same e3865) w3837))
                                  have w3901 : OwAll G3817 H3882 L3204 (vs3203) ((spoilt_3202 : (List (List (List Int)))).map (oL (oL oI))) := (OwAll.mono (Same.refl _) (keeps_same e3883) (OwAll.mono (Same.refl _) (keeps_same e3865) w3838))
                                  have w3902 : OwAll G3817 H3882 L3318 (vs3317) ((longer_3316 : (List (List (List Int)))).map (oL (oL oI))) := (OwAll.mono (Same.refl _) (keeps_same e3883) (OwAll.mono (Same.refl _) (keeps_same e3865) w3839))
                                  have w3903 : OwAll G3817 H3882 L3822 (vs3820) ((acc3819 : (List (List (List Int)))).map (oL (oL oI))) := (OwAll.mono (Same.refl _) (keeps_same e3883) (OwAll.mono (Same.refl _) (keeps_same e3865) d3821))
                                  exact ⟨_, [], [], [], Same.refl _, (S3886.sub (all_cons (.head _) (all_app (L := []) all_nil (all_cons (.tail _ (.tail _ (.tail _ (List.mem_append_right _ (.head _))))) (all_cons (.tail _ (.tail _ (.tail _ (List.mem_append_right _ (.tail _ (.head _)))))) (all_cons (.tail _ (.tail _ (.tail _ (List.mem_append_right _ (.tail _ (.tail _ (.head _))))))) (all_cons (.tail _ (.tail _ (.tail _ (List.mem_append_right _ (.tail _ (.tail _ (.tail _ (.head _)))))))) (all_cons (.tail _ (.tail _ (.head _))) (all_cons (.tail _ (.tail _ (.tail _ (List.mem_append_right _ (.tail _ (.tail _ (.tail _ (.tail _ (.head _))))))))) (all_cons (.tail _ (.tail _ (.tail _ (List.mem_append_right _ (.tail _ (.tail _ (.tail _ (.tail _ (.tail _ (.head _)))))))))) (all_cons (.tail _ (.tail _ (.tail _ (List.mem_append_right _ (.tail _ (.tail _ (.tail _ (.tail _ (.tail _ (.tail _ (.head _))))))))))) (all_cons (.tail _ (.tail _ (.tail _ (List.mem_append_right _ (.tail _ (.tail _ (.tail _ (.tail _ (.tail _ (.tail _ (.tail _ (.head _)))))))))))) (all_cons (.tail _ (.tail _ (.tail _ (List.mem_append_right _ (.tail _ (.tail _ (.tail _ (.tail _ (.tail _ (.tail _ (.tail _ (.tail _ (.head _))))))))))))) (all_cons (.tail _ (.tail _ (.tail _ (List.mem_append_right _ (.tail _ (.tail _ (.tail _ (.tail _ (.tail _ (.tail _ (.tail _ (.tail _ (.tail _ (.head _)))))))))))))) (all_cons (.tail _ (.head _)) (all_app ((fun b hb => (.tail _ (.tail _ (.tail _ (List.mem_append_right _ (.tail _ (.tail _ (.tail _ (.tail _ (.tail _ (.tail _ (.tail _ (.tail _ (.tail _ (.tail _ (List.mem_append_left _ hb)))))))))))))))) : ∀ b ∈ L3315, b ∈ (D3876 :: (p3861 :: (D3789 :: (L3822 ++ (a3064 :: (a3115 :: (a3175 :: (a3284 :: (p2462 :: (x2474 :: (D2534 :: (D2611 :: (D2826 :: (D2928 :: (L3315 ++ (L3117 ++ (L3204 ++ (L3318 ++ []))))))))))))))))))) (all_app ((fun b hb => (.tail _ (.tail _ (.tail _ (List.mem_append_right _ (.tail _ (.tail _ (.tail _ (.tail _ (.tail _ (.tail _ (.tail _ (.tail _ (.tail _ (.tail _ (List.mem_append_right _ (List.mem_append_left _ hb))))))))))))))))) : ∀ b ∈ L3117, b ∈ (D3876 :: (p3861 :: (D3789 :: (L3822 ++ (a3064 :: (a3115 :: (a3175 :: (a3284 :: (p2462 :: (x2474 :: (D2534 :: (D2611 :: (D2826 :: (D2928 :: (L3315 ++ (L3117 ++ (L3204 ++ (L3318 ++ []))))))))))))))))))) (all_app ((fun b hb => (.tail _ (.tail _ (.tail _ (List.mem_append_right _ (.tail _ (.tail _ (.tail _ (.tail _ (.tail _ (.tail _ (.tail _ (.tail _ (.tail _ (.tail _ (List.mem_append_right _ (List.mem_append_right _ (List.mem_append_left _ hb)))))))))))))))))) : ∀ b ∈ L3204, b ∈ (D3876 :: (p3861 :: (D3789 :: (L3822 ++ (a3064 :: (a3115 :: (a3175 :: (a3284 :: (p2462 :: (x2474 :: (D2534 :: (D2611 :: (D2826 :: (D2928 :: (L3315 ++ (L3117 ++ (L3204 ++ (L3318 ++ []))))))))))))))))))) (all_app ((fun b hb => (.tail _ (.tail _ (.tail _ (List.mem_append_right _ (.tail _ (.tail _ (.tail _ (.tail _ (.tail _ (.tail _ (.tail _ (.tail _ (.tail _ (.tail _ (List.mem_append_right _ (List.mem_append_right _ (List.mem_append_right _ (List.mem_append_left _ hb))))))))))))))))))) : ∀ b ∈ L3318, b ∈ (D3876 :: (p3861 :: (D3789 :: (L3822 ++ (a3064 :: (a3115 :: (a3175 :: (a3284 :: (p2462 :: (x2474 :: (D2534 :: (D2611 :: (D2826 :: (D2928 :: (L3315 ++ (L3117 ++ (L3204 ++ (L3318 ++ []))))))))))))))))))) (all_app ((fun b hb => (.tail _ (.tail _ (.tail _ (List.mem_append_left _ hb))))) : ∀ b ∈ L3822, b ∈ (D3876 :: (p3861 :: (D3789 :: (L3822 ++ (a3064 :: (a3115 :: (a3175 :: (a3284 :: (p2462 :: (x2474 :: (D2534 :: (D2611 :: (D2826 :: (D2928 :: (L3315 ++ (L3117 ++ (L3204 ++ (L3318 ++ []))))))))))))))))))) all_nil)))))))))))))))))))), h3887, h3888, h3889, h3890, h3891, h3892, h3893, h3894, h3895, h3896, h3897, h3898, h3884, w3899, w3900, w3901, w3902, w3903, OwAll.nil, all_nil, all_nil, e3883, hw⟩
                                · intro i2 H3904 _ hw
                                  obtain ⟨G3907, acc3909, vs3910, L3912, eG3908, S3905, h3916, h3917, h3918, h3919, h3920, h3921, h3922, h3923, h3924, h3925, h3926, h3927, h3906, w3928, w3929, w3930, w3931, w3932, d3911, nb3913, nd3914, eo3915, hw⟩ := hw
                                  exact (SqL.of h3927)
                                · intro i2 x H3933 hj hw
                                  obtain ⟨G3936, acc3938, vs3939, L3941, eG3937, S3934, h3945, h3946, h3947, h3948, h3949, h3950, h3951, h3952, h3953, h3954, h3955, h3956, h3935, w3957, w3958, w3959, w3960, w3961, d3940, nb3942, nd3943, eo3944, hw⟩ := hw
                                  obtain ⟨x3962, hx, r3963⟩ := RpAll.get (RpAll.mono eG3937 d3870) hj
                                  obtain ⟨a3964, rfl, h3965⟩ := rp_ints r3963
                                  obtain ⟨z3966, hw⟩ := cW_mapA hx hw
                                  have hw := cW_noEr hw
                                  have hw : cW (F_law_c15 (acc2594) (x3841) (x3962)) _ (fun _ => False) := hw
                                  unfold F_law_c15 at hw
                                  refine ⟨rfl, ?_⟩
                                  refine tyes_go ?_
                                  obtain ⟨g3968, hw⟩ := cW_grd hw
                                  obtain ⟨v3969, a3970, r3971⟩ := RpAll.ixD (k := x3841) (RpAll.mono eG3937 (RpAll.mono eG3818 (RpAll.mono eG3766 (RpAll.mono eG3756 (RpAll.mono eG3734 (RpAll.mono eG3718 (RpAll.mono eG3291 (RpAll.mono eG3280 (RpAll.mono eG3182 (RpAll.mono eG3122 (RpAll.mono eG3111 (RpAll.mono eG3071 (RpAll.mono eG3055 (RpAll.mono eG3045 (RpAll.mono eG3021 (RpAll.mono eG2909 (RpAll.mono eG2814 (RpAll.mono eG2675 d2596)))))))))))))))))) g3968
                                  obtain ⟨a3972, v3974, v3975, rfl, h3973, r3976, r3977⟩ := rp_tup2 r3971
                                  obtain rfl := rp_int r3976
                                  obtain rfl := rp_int r3977
                                  refine ⟨_, rfl, _, rfl, _, rfl, _, _, _, _, rfl, rfl, (SqL.of h3952), a3970, _, _, _, _, rfl, rfl, (SqT.of (S3934.sG _ _ h3973)), rfl, _, rfl, _, _, rfl, (SqL.of (S3934.sG _ _ h3965)), fun p3978 n3979 => ?_⟩
                                  generalize g3980 : upd H3933 p3978 _ = H3981
                                  obtain ⟨e3982, h3983⟩ := gen_new n3979 g3980
                                  have h3984 : H3981 p3978 = some (.lst ((cutL (x3962) none (some ((itD (acc2594) (x3841)).1)) : (List Int)).map V.int)) := cut_map h3983
                                  have fr3985 := S3934.free n3979
                                  have S3986 := S3934.new n3979 e3982 h3984 fr3985
                                  have w3987 : OwAll G3936 H3981 L3941 (vs3939) ((acc3938 : (List (List Int))).map (oL oI)) := (OwAll.mono (Same.refl _) (keeps_same e3982) d3940)
                                  have h3988 := (e3982 _ _ h3935)
                                  refine ⟨_, h3988, (app_len (OwAll.rpA w3987 (encO_L encO_I) S3986.sG) z3966), ?_⟩
                                  generalize g3989 : upd H3981 D3876 _ = H3990
                                  obtain ⟨x3991, h3992⟩ := gen_mut g3989
                                  have S3993 := S3986.mut1 x3991 (.tail _ (.head _)) h3992
                                  have hw := cW_ok hw
                                  have h3994 := (x3991 _ _ (e3982 _ _ h3945) (ne_of_none (e3865 _ _ h3826) n3877))
                                  have h3995 := (x3991 _ _ (e3982 _ _ h3946) (ne_of_none (e3865 _ _ h3827) n3877))
                                  have h3996 := (x3991 _ _ (e3982 _ _ h3947) (ne_of_none (e3865 _ _ h3828) n3877))
                                  have h3997 := (x3991 _ _ (e3982 _ _ h3948) (ne_of_none (e3865 _ _ h3829) n3877))
                                  have h3998 := (x3991 _ _ (e3982 _ _ h3949) (ne_of_none (e3865 _ _ h3816) n3877))
                                  have h3999 := (x3991 _ _ (e3982 _ _ h3950) (ne_of_none (e3865 _ _ h3830) n3877))
                                  have h4000 := (x3991 _ _ (e3982 _ _ h3951) (ne_of_none (e3865 _ _ h3831) n3877))
                                  have h4001 := (x3991 _ _ (e3982 _ _ h3952) (ne_of_none (e3865 _ _ h3832) n3877))
                                  have h4002 := (x3991 _ _ (e3982 _ _ h3953) (ne_of_none (e3865 _ _ h3833) n3877))
                                  have h4003 := (x3991 _ _ (e3982 _ _ h3954) (ne_of_none (e3865 _ _ h3834) n3877))
                                  have h4004 := (x3991 _ _ (e3982 _ _ h3955) (ne_of_none (e3865 _ _ h3835) n3877))
                                  have h4005 := (x3991 _ _ (e3982 _ _ h3956) (ne_of_none h3867 n3877))
                                  have w4006 : OwAll G3936 H3990 L3315 (vs3314) ((actual_3313 : (List (List (List Int)))).map (oL (oL oI))) := (OwAll.mono (Same.refl _) (keeps_mut x3991 ((there_ne (fun b_ hb_ => (S3869.ow b_ (((fun b hb => (.tail _ (.tail _ (List.mem_append_right _ (.tail _ (.tail _ (.tail _ (.tail _ (.tail _ (.tail _ (.tail _ (.tail _ (.tail _ (.tail _ (List.mem_append_left _ hb))))))))))))))) : ∀ b ∈ L3315, b ∈ (p3861 :: (D3789 :: (L3822 ++ (a3064 :: (a3115 :: (a3175 :: (a3284 :: (p2462 :: (x2474 :: (D2534 :: (D2611 :: (D2826 :: (D2928 :: (L3315 ++ (L3117 ++ (L3204 ++ (L3318 ++ [])))))))))))))))))) b_ hb_)).2.1) n3877) : ∀ b ∈ L3315, b ≠ D3876)) (OwAll.mono (Same.refl _) (keeps_same e3982) w3957))
                                  have w4007 : OwAll G3936 H3990 L3117 (vs3116) ((setL (v3112) (0) (setL ((itD (v3112) (0))) (0) (setL ((itD ((itD (v3112) (0))) (0))) (0) ((top_2496 + 1)))) : (List (List (List Int)))).map (oL (oL oI))) := (OwAll.mono (Same.refl _) (keeps_mut x3991 ((there_ne (fun b_ hb_ => (S3869.ow b_ (((fun b hb => (.tail _ (.tail _ (List.mem_append_right _ (.tail _ (.tail _ (.tail _ (.tail _ (.tail _ (.tail _ (.tail _ (.tail _ (.tail _ (.tail _ (List.mem_append_right _ (List.mem_append_left _ hb)))))))))))))))) : ∀ b ∈ L3117, b ∈ (p3861 :: (D3789 :: (L3822 ++ (a3064 :: (a3115 :: (a3175 :: (a3284 :: (p2462 :: (x2474 :: (D2534 :: (D2611 :: (D2826 :: (D2928 :: (L3315 ++ (L3117 ++ (L3204 ++ (L3318 ++ [])))))))))))))))))) b_ hb_)).2.1) n3877) : ∀ b ∈ L3117, b ≠ D3876)) (OwAll.mono (Same.refl _) (keeps_same e3982) w3958))
                                  have w4008 : OwAll G3936 H3990 L3204 (vs3203) ((spoilt_3202 : (List (List (List Int)))).map (oL (oL oI))) := (OwAll.mono (Same.refl _) (keeps_mut x3991 ((there_ne (fun b_ hb_ => (S3869.ow b_ (((fun b hb => (.tail _ (.tail _ (List.mem_append_right _ (.tail _ (.tail _ (.tail _ (.tail _ (.tail _ (.tail _ (.tail _ (.tail _ (.tail _ (.tail _ (List.mem_append_right _ (List.mem_append_right _ (List.mem_append_left _ hb))))))))))))))))) : ∀ b ∈ L3204, b ∈ (p3861 :: (D3789 :: (L3822 ++ (a3064 :: (a3115 :: (a3175 :: (a3284 :: (p2462 :: (x2474 :: (D2534 :: (D2611 :: (D2826 :: (D2928 :: (L3315 ++ (L3117 ++ (L3204 ++ (L3318 ++ [])))))))))))))))))) b_ hb_)).2.1) n3877) : ∀ b ∈ L3204, b ≠ D3876)) (OwAll.mono (Same.refl _) (keeps_same e3982) w3959))
                                  have w4009 : OwAll G3936 H3990 L3318 (vs3317) ((longer_3316 : (List (List (List Int)))).map (oL (oL oI))) := (OwAll.mono (Same.refl _) (keeps_mut x3991 ((there_ne (fun b_ hb_ => (S3869.ow b_ (((fun b hb => (.tail _ (.tail _ (List.mem_append_right _ (.tail _ (.tail _ (.tail _ (.tail _ (.tail _ (.tail _ (.tail _ (.tail _ (.tail _ (.tail _ (List.mem_append_right _ (List.mem_append_right _ (List.mem_append_right _ (List.mem_append_left _ hb)))))))))))))))))) : ∀ b ∈ L3318, b ∈ (p3861 :: (D3789 :: (L3822 ++ (a3064 :: (a3115 :: (a3175 :: (a3284 :: (p2462 :: (x2474 :: (D2534 :: (D2611 :: (D2826 :: (D2928 :: (L3315 ++ (L3117 ++ (L3204 ++ (L3318 ++ [])))))))))))))))))) b_ hb_)).2.1) n3877) : ∀ b ∈ L3318, b ≠ D3876)) (OwAll.mono (Same.refl _) (keeps_same e3982) w3960))
                                  have w4010 : OwAll G3936 H3990 L3822 (vs3820) ((acc3819 : (List (List (List Int)))).map (oL (oL oI))) := (OwAll.mono (Same.refl _) (keeps_mut x3991 ((there_ne (fun b_ hb_ => (S3869.ow b_ (((fun b hb => (.tail _ (.tail _ (List.mem_append_left _ hb)))) : ∀ b ∈ L3822, b ∈ (p3861 :: (D3789 :: (L3822 ++ (a3064 :: (a3115 :: (a3175 :: (a3284 :: (p2462 :: (x2474 :: (D2534 :: (D2611 :: (D2826 :: (D2928 :: (L3315 ++ (L3117 ++ (L3204 ++ (L3318 ++ [])))))))))))))))))) b_ hb_)).2.1) n3877) : ∀ b ∈ L3822, b ≠ D3876)) (OwAll.mono (Same.refl _) (keeps_same e3982) w3961))
                                  exact ⟨_, (acc3938 ++ [cutL (x3962) none (some ((itD (acc2594) (x3841)).1))]), _, (L3941 ++ (p3978 :: ([] : List Addr))), eG3937, (S3993.sub (all_cons (.tail _ (.head _)) (all_app (all_app ((fun b hb => (.tail _ (.tail _ (List.mem_append_left _ hb)))) : ∀ b ∈ L3941, b ∈ (p3978 :: (D3876 :: (L3941 ++ (a3064 :: (a3115 :: (a3175 :: (a3284 :: (D3789 :: (p2462 :: (x2474 :: (D2534 :: (D2611 :: (D2826 :: (D2928 :: (p3861 :: (L3315 ++ (L3117 ++ (L3204 ++ (L3318 ++ (L3822 ++ []))))))))))))))))))))) (all_cons (.head _) all_nil)) (all_cons (.tail _ (.tail _ (List.mem_append_right _ (.head _)))) (all_cons (.tail _ (.tail _ (List.mem_append_right _ (.tail _ (.head _))))) (all_cons (.tail _ (.tail _ (List.mem_append_right _ (.tail _ (.tail _ (.head _)))))) (all_cons (.tail _ (.tail _ (List.mem_append_right _ (.tail _ (.tail _ (.tail _ (.head _))))))) (all_cons (.tail _ (.tail _ (List.mem_append_right _ (.tail _ (.tail _ (.tail _ (.tail _ (.head _)))))))) (all_cons (.tail _ (.tail _ (List.mem_append_right _ (.tail _ (.tail _ (.tail _ (.tail _ (.tail _ (.head _))))))))) (all_cons (.tail _ (.tail _ (List.mem_append_right _ (.tail _ (.tail _ (.tail _ (.tail _ (.tail _ (.tail _ (.head _)))))))))) (all_cons (.tail _ (.tail _ (List.mem_append_right _ (.tail _ (.tail _ (.tail _ (.tail _ (.tail _ (.tail _ (.tail _ (.head _))))))))))) (all_cons (.tail _ (.tail _ (List.mem_append_right _ (.tail _ (.tail _ (.tail _ (.tail _ (.tail _ (.tail _ (.tail _ (.tail _ (.head _)))))))))))) (all_cons (.tail _ (.tail _ (List.mem_append_right _ (.tail _ (.tail _ (.tail _ (.tail _ (.tail _ (.tail _ (.tail _ (.tail _ (.tail _ (.head _))))))))))))) (all_cons (.tail _ (.tail _ (List.mem_append_right _ (.tail _ (.tail _ (.tail _ (.tail _ (.tail _ (.tail _ (.tail _ (.tail _ (.tail _ (.tail _ (.head _)))))))))))))) (all_cons (.tail _ (.tail _ (List.mem_append_right _ (.tail _ (.tail _ (.tail _ (.tail _ (.tail _ (.tail _ (.tail _ (.tail _ (.tail _ (.tail _ (.tail _ (.head _))))))))))))))) (all_app ((fun b hb => (.tail _ (.tail _ (List.mem_append_right _ (.tail _ (.tail _ (.tail _ (.tail _ (.tail _ (.tail _ (.tail _ (.tail _ (.tail _ (.tail _ (.tail _ (.tail _ (List.mem_append_left _ hb))))))))))))))))) : ∀ b ∈ L3315, b ∈ (p3978 :: (D3876 :: (L3941 ++ (a3064 :: (a3115 :: (a3175 :: (a3284 :: (D3789 :: (p2462 :: (x2474 :: (D2534 :: (D2611 :: (D2826 :: (D2928 :: (p3861 :: (L3315 ++ (L3117 ++ (L3204 ++ (L3318 ++ (L3822 ++ []))))))))))))))))))))) (all_app ((fun b hb => (.tail _ (.tail _ (List.mem_append_right _ (.tail _ (.tail _ (.tail _ (.tail _ (.tail _ (.tail _ (.tail _ (.tail _ (.tail _ (.tail _ (.tail _ (.tail _ (List.mem_append_right _ (List.mem_append_left _ hb)))))))))))))))))) : ∀ b ∈ L3117, b ∈ (p3978 :: (D3876 :: (L3941 ++ (a3064 :: (a3115 :: (a3175 :: (a3284 :: (D3789 :: (p2462 :: (x2474 :: (D2534 :: (D2611 :: (D2826 :: (D2928 :: (p3861 :: (L3315 ++ (L3117 ++ (L3204 ++ (L3318 ++ (L3822 ++ []))))))))))))))))))))) (all_app ((fun b hb => (.tail _ (.tail _ (List.mem_append_right _ (.tail _ (.tail _ (.tail _ (.tail _ (.tail _ (.tail _ (.tail _ (.tail _ (.tail _ (.tail _ (.tail _ (.tail _ (List.mem_append_right _ (List.mem_append_right _ (List.mem_append_left _ hb))))))))))))))))))) : ∀ b ∈ L3204, b ∈ (p3978 :: (D3876 :: (L3941 ++ (a3064 :: (a3115 :: (a3175 :: (a3284 :: (D3789 :: (p2462 :: (x2474 :: (D2534 :: (D2611 :: (D2826 :: (D2928 :: (p3861 :: (L3315 ++ (L3117 ++ (L3204 ++ (L3318 ++ (L3822 ++ []))))))))))))))))))))) (all_app ((fun b hb => (.tail _ (.tail _ (List.mem_append_right _ (.tail _ (.tail _ (.tail _ (.tail _ (.tail _ (.tail _ (.tail _ (.tail _ (.tail _ (.tail _ (.tail _ (.tail _ (List.mem_append_right _ (List.mem_append_right _ (List.mem_append_right _ (List.mem_append_left _ hb)))))))))))))))))))) : ∀ b ∈ L3318, b ∈ (p3978 :: (D3876 :: (L3941 ++ (a3064 :: (a3115 :: (a3175 :: (a3284 :: (D3789 :: (p2462 :: (x2474 :: (D2534 :: (D2611 :: (D2826 :: (D2928 :: (p3861 :: (L3315 ++ (L3117 ++ (L3204 ++ (L3318 ++ (L3822 ++ []))))))))))))))))))))) (all_app ((fun b hb => (.tail _ (.tail _ (List.mem_append_right _ (.tail _ (.tail _ (.tail _ (.tail _ (.tail _ (.tail _ (.tail _ (.tail _ (.tail _ (.tail _ (.tail _ (.tail _ (List.mem_append_right _ (List.mem_append_right _ (List.mem_append_right _ (List.mem_append_right _ (List.mem_append_left _ hb))))))))))))))))))))) : ∀ b ∈ L3822, b ∈ (p3978 :: (D3876 :: (L3941 ++ (a3064 :: (a3115 :: (a3175 :: (a3284 :: (D3789 :: (p2462 :: (x2474 :: (D2534 :: (D2611 :: (D2826 :: (D2928 :: (p3861 :: (L3315 ++ (L3117 ++ (L3204 ++ (L3318 ++ (L3822 ++ []))))))))))))))))))))) all_nil)))))))))))))))))))), h3994, h3995, h3996, h3997, h3998, h3999, h4000, h4001, h4002, h4003, h4004, h4005, h3992, w4006, w4007, w4008, w4009, w4010, (OwAll.mono (Same.refl _) (keeps_mut x3991 ((all_app nd3943 (all_cons (ne_of_none h3935 n3979).symm all_nil)) : ∀ b ∈ (L3941 ++ (p3978 :: ([] : List Addr))), b ≠ D3876)) (OwAll.snocM w3987 (Ow.ints h3984) ((fun b hb => (nm_cons ((there_ne (fun b_ hb_ => (S3934.ow b_ (((fun b hb => (.tail _ (List.mem_append_left _ hb))) : ∀ b ∈ L3941, b ∈ (D3876 :: (L3941 ++ (a3064 :: (a3115 :: (a3175 :: (a3284 :: (D3789 :: (p2462 :: (x2474 :: (D2534 :: (D2611 :: (D2826 :: (D2928 :: (p3861 :: (L3315 ++ (L3117 ++ (L3204 ++ (L3318 ++ (L3822 ++ [])))))))))))))))))))) b_ hb_)).2.1) n3979) b hb) nm_nil)) : ∀ b ∈ L3941, b ∉ (p3978 :: ([] : List Addr))))), ((all_app nb3942 (all_cons (none_of_same eo3944 n3979) all_nil)) : ∀ b ∈ (L3941 ++ (p3978 :: ([] : List Addr))), H3864 b = none), ((all_app nd3943 (all_cons (ne_of_none h3935 n3979).symm all_nil)) : ∀ b ∈ (L3941 ++ (p3978 :: ([] : List Addr))), b ≠ D3876), (same_mut (Same.trans eo3944 e3982) x3991 n3877), hw⟩
                                intro H4011 hw
                                obtain ⟨G4014, acc4016, vs4017, L4019, eG4015, S4012, h4023, h4024, h4025, h4026, h4027, h4028, h4029, h4030, h4031, h4032, h4033, h4034, h4013, w4035, w4036, w4037, w4038, w4039, d4018, nb4020, nd4021, eo4022, hw⟩ := hw
                                have hw := hK3875 _ (cW_mapA0 (by rw [(RpAll.mono eG4015 d3870).len, List.length_map]) hw)
                                have fr4040 := S3869.free n3877
                                refine ⟨_, h4027, (app_len (OwAll.rpA w4039 (encO_L (encO_L encO_I)) S4012.sG) z3840), ?_⟩
                                generalize g4041 : upd H4011 D3789 _ = H4042
                                obtain ⟨x4043, h4044⟩ := gen_mut g4041
                                have S4045 := S4012.mut1 x4043 (.tail _ (List.mem_append_right _ (.tail _ (.tail _ (.tail _ (.tail _ (.head _))))))) h4044
                                have hw := cW_ok hw
                                have h4046 := (x4043 _ _ h4023 (ne_of_none (e3748 _ _ (e3726 _ _ h3684)) n3790))
                                have h4047 := (x4043 _ _ h4024 (ne_of_none (e3748 _ _ (e3726 _ _ h3685)) n3790))
                                have h4048 := (x4043 _ _ h4025 (ne_of_none (e3748 _ _ (e3726 _ _ h3686)) n3790))
                                have h4049 := (x4043 _ _ h4026 (ne_of_none (e3748 _ _ (e3726 _ _ h3687)) n3790))
                                have h4050 := (x4043 _ _ h4028 (ne_of_none (e3748 _ _ (e3726 _ _ h3678)) n3790))
                                have h4051 := (x4043 _ _ h4029 (ne_of_none (e3748 _ _ (e3726 _ _ h3679)) n3790))
                                have h4052 := (x4043 _ _ h4030 (ne_of_none (e3748 _ _ (e3726 _ _ h3680)) n3790))
                                have h4053 := (x4043 _ _ h4031 (ne_of_none (e3748 _ _ (e3726 _ _ h3681)) n3790))
                                have h4054 := (x4043 _ _ h4032 (ne_of_none (e3748 _ _ h3745) n3790))
                                have h4055 := (x4043 _ _ h4033 (ne_of_none (e3748 _ _ h3743) n3790))
                                have w4056 : OwAll G4014 H4042 L3315 (vs3314) ((actual_3313 : (List (List (List Int)))).map (oL (oL oI))) := (OwAll.mono (Same.refl _) (keeps_mut x4043 ((there_ne (fun b_ hb_ => (S3768.ow b_ (((fun b hb => (.tail _ (List.mem_append_right _ (.tail _ (.tail _ (.tail _ (.tail _ (.tail _ (.tail _ (.tail _ (.tail _ (.tail _ (.tail _ (List.mem_append_left _ hb)))))))))))))) : ∀ b ∈ L3315, b ∈ (a3727 :: (L3729 ++ (p2462 :: (x2474 :: (D2534 :: (D2611 :: (D2826 :: (D2928 :: (a3064 :: (a3115 :: (a3175 :: (a3284 :: (L3315 ++ (L3117 ++ (L3204 ++ (L3318 ++ []))))))))))))))))) b_ hb_)).2.1) n3790) : ∀ b ∈ L3315, b ≠ D3789)) w4035)
                                have w4057 : OwAll G4014 H4042 L3117 (vs3116) ((setL (v3112) (0) (setL ((itD (v3112) (0))) (0) (setL ((itD ((itD (v3112) (0))) (0))) (0) ((top_2496 + 1)))) : (List (List (List Int)))).map (oL (oL oI))) := (OwAll.mono (Same.refl _) (keeps_mut x4043 ((there_ne (fun b_ hb_ => (S3768.ow b_ (((fun b hb => (.tail _ (List.mem_append_right _ (.tail _ (.tail _ (.tail _ (.tail _ (.tail _ (.tail _ (.tail _ (.tail _ (.tail _ (.tail _ (List.mem_append_right _ (List.mem_append_left _ hb))))))))))))))) : ∀ b ∈ L3117, b ∈ (a3727 :: (L3729 ++ (p2462 :: (x2474 :: (D2534 :: (D2611 :: (D2826 :: (D2928 :: (a3064 :: (a3115 :: (a3175 :: (a3284 :: (L3315 ++ (L3117 ++ (L3204 ++ (L3318 ++ []))))))))))))))))) b_ hb_)).2.1) n3790) : ∀ b ∈ L3117, b ≠ D3789)) w4036)
                                have w4058 : OwAll G4014 H4042 L3204 (vs3203) ((spoilt_3202 : (List (List (List Int)))).map (oL (oL oI))) := (OwAll.mono (Same.refl _) (keeps_mut x4043 ((there_ne (fun b_ hb_ => (S3768.ow b_ (((fun b hb => (.tail _ (List.mem_append_right _ (.tail _ (.tail _ (.tail _ (.tail _ (.tail _ (.tail _ (.tail _ (.tail _ (.tail _ (.tail _ (List.mem_append_right _ (List.mem_append_right _ (List.mem_append_left _ hb)))))))))))))))) : ∀ b ∈ L3204, b ∈ (a3727 :: (L3729 ++ (p2462 :: (x2474 :: (D2534 :: (D2611 :: (D2826 :: (D2928 :: (a3064 :: (a3115 :: (a3175 :: (a3284 :: (L3315 ++ (L3117 ++ (L3204 ++ (L3318 ++ []))))))))))))))))) b_ hb_)).2.1) n3790) : ∀ b ∈ L3204, b ≠ D3789)) w4037)
                                have w4059 : OwAll G4014 H4042 L3318 (vs3317) ((longer_3316 : (List (List (List Int)))).map (oL (oL oI))) := (OwAll.mono (Same.refl _) (keeps_mut x4043 ((there_ne (fun b_ hb_ => (S3768.ow b_ (((fun b hb => (.tail _ (List.mem_append_right _ (.tail _ (.tail _ (.tail _ (.tail _ (.tail _ (.tail _ (.tail _ (.tail _ (.tail _ (.tail _ (List.mem_append_right _ (List.mem_append_right _ (List.mem_append_right _ (List.mem_append_left _ hb))))))))))))))))) : ∀ b ∈ L3318, b ∈ (a3727 :: (L3729 ++ (p2462 :: (x2474 :: (D2534 :: (D2611 :: (D2826 :: (D2928 :: (a3064 :: (a3115 :: (a3175 :: (a3284 :: (L3315 ++ (L3117 ++ (L3204 ++ (L3318 ++ []))))))))))))))))) b_ hb_)).2.1) n3790) : ∀ b ∈ L3318, b ≠ D3789)) w4038)
                                exact ⟨_, (acc3819 ++ [acc4016]), _, (L3822 ++ (D3876 :: L4019)), (Same.trans eG3818 eG4015), (S4045.sub (all_cons (.tail _ (List.mem_append_right _ (.tail _ (.tail _ (.tail _ (.tail _ (.head _))))))) (all_app (all_app ((fun b hb => (.tail _ (List.mem_append_right _ (.tail _ (.tail _ (.tail _ (.tail _ (.tail _ (.tail _ (.tail _ (.tail _ (.tail _ (.tail _ (.tail _ (.tail _ (List.mem_append_right _ (List.mem_append_right _ (List.mem_append_right _ (List.mem_append_right _ (List.mem_append_left _ hb)))))))))))))))))))) : ∀ b ∈ L3822, b ∈ (D3876 :: (L4019 ++ (a3064 :: (a3115 :: (a3175 :: (a3284 :: (D3789 :: (p2462 :: (x2474 :: (D2534 :: (D2611 :: (D2826 :: (D2928 :: (p3861 :: (L3315 ++ (L3117 ++ (L3204 ++ (L3318 ++ (L3822 ++ [])))))))))))))))))))) (all_cons (.head _) ((fun b hb => (.tail _ (List.mem_append_left _ hb))) : ∀ b ∈ L4019, b ∈ (D3876 :: (L4019 ++ (a3064 :: (a3115 :: (a3175 :: (a3284 :: (D3789 :: (p2462 :: (x2474 :: (D2534 :: (D2611 :: (D2826 :: (D2928 :: (p3861 :: (L3315 ++ (L3117 ++ (L3204 ++ (L3318 ++ (L3822 ++ [])))))))))))))))))))))) (all_cons (.tail _ (List.mem_append_right _ (.head _))) (all_cons (.tail _ (List.mem_append_right _ (.tail _ (.head _)))) (all_cons (.tail _ (List.mem_append_right _ (.tail _ (.tail _ (.head _))))) (all_cons (.tail _ (List.mem_append_right _ (.tail _ (.tail _ (.tail _ (.head _)))))) (all_cons (.tail _ (List.mem_append_right _ (.tail _ (.tail _ (.tail _ (.tail _ (.tail _ (.head _)))))))) (all_cons (.tail _ (List.mem_append_right _ (.tail _ (.tail _ (.tail _ (.tail _ (.tail _ (.tail _ (.head _))))))))) (all_cons (.tail _ (List.mem_append_right _ (.tail _ (.tail _ (.tail _ (.tail _ (.tail _ (.tail _ (.tail _ (.head _)))))))))) (all_cons (.tail _ (List.mem_append_right _ (.tail _ (.tail _ (.tail _ (.tail _ (.tail _ (.tail _ (.tail _ (.tail _ (.head _))))))))))) (all_cons (.tail _ (List.mem_append_right _ (.tail _ (.tail _ (.tail _ (.tail _ (.tail _ (.tail _ (.tail _ (.tail _ (.tail _ (.head _)))))))))))) (all_cons (.tail _ (List.mem_append_right _ (.tail _ (.tail _ (.tail _ (.tail _ (.tail _ (.tail _ (.tail _ (.tail _ (.tail _ (.tail _ (.head _))))))))))))) (all_app ((fun b hb => (.tail _ (List.mem_append_right _ (.tail _ (.tail _ (.tail _ (.tail _ (.tail _ (.tail _ (.tail _ (.tail _ (.tail _ (.tail _ (.tail _ (.tail _ (List.mem_append_left _ hb)))))))))))))))) : ∀ b ∈ L3315, b ∈ (D3876 :: (L4019 ++ (a3064 :: (a3115 :: (a3175 :: (a3284 :: (D3789 :: (p2462 :: (x2474 :: (D2534 :: (D2611 :: (D2826 :: (D2928 :: (p3861 :: (L3315 ++ (L3117 ++ (L3204 ++ (L3318 ++ (L3822 ++ [])))))))))))))))))))) (all_app ((fun b hb => (.tail _ (List.mem_append_right _ (.tail _ (.tail _ (.tail _ (.tail _ (.tail _ (.tail _ (.tail _ (.tail _ (.tail _ (.tail _ (.tail _ (.tail _ (List.mem_append_right _ (List.mem_append_left _ hb))))))))))))))))) : ∀ b ∈ L3117, b ∈ (D3876 :: (L4019 ++ (a3064 :: (a3115 :: (a3175 :: (a3284 :: (D3789 :: (p2462 :: (x2474 :: (D2534 :: (D2611 :: (D2826 :: (D2928 :: (p3861 :: (L3315 ++ (L3117 ++ (L3204 ++ (L3318 ++ (L3822 ++ [])))))))))))))))))))) (all_app ((fun b hb => (.tail _ (List.mem_append_right _ (.tail _ (.tail _ (.tail _ (.tail _ (.tail _ (.tail _ (.tail _ (.tail _ (.tail _ (.tail _ (.tail _ (.tail _ (List.mem_append_right _ (List.mem_append_right _ (List.mem_append_left _ hb)))))))))))))))))) : ∀ b ∈ L3204, b ∈ (D3876 :: (L4019 ++ (a3064 :: (a3115 :: (a3175 :: (a3284 :: (D3789 :: (p2462 :: (x2474 :: (D2534 :: (D2611 :: (D2826 :: (D2928 :: (p3861 :: (L3315 ++ (L3117 ++ (L3204 ++ (L3318 ++ (L3822 ++ [])))))))))))))))))))) (all_app ((fun b hb => (.tail _ (List.mem_append_right _ (.tail _ (.tail _ (.tail _ (.tail _ (.tail _ (.tail _ (.tail _ (.tail _ (.tail _ (.tail _ (.tail _ (.tail _ (List.mem_append_right _ (List.mem_append_right _ (List.mem_append_right _ (List.mem_append_left _ hb))))))))))))))))))) : ∀ b ∈ L3318, b ∈ (D3876 :: (L4019 ++ (a3064 :: (a3115 :: (a3175 :: (a3284 :: (D3789 :: (p2462 :: (x2474 :: (D2534 :: (D2611 :: (D2826 :: (D2928 :: (p3861 :: (L3315 ++ (L3117 ++ (L3204 ++ (L3318 ++ (L3822 ++ [])))))))))))))))))))) all_nil))))))))))))))))), h4046, h4047, h4048, h4049, h4050, h4051, h4052, h4053, h4054, h4055, h4044, w4056, w4057, w4058, w4059, (OwAll.mono (Same.refl _) (keeps_mut x4043 ((all_app nd3824 (all_cons (ne_of_none (e3865 _ _ h3816) n3877).symm (new_ne2 nb4020 (S3869.ow _ (.tail _ (.head _))).2.1))) : ∀ b ∈ (L3822 ++ (D3876 :: L4019)), b ≠ D3789)) (OwAll.snocM w4039 (Ow.list h4013 d4018 (nd4021 : ∀ b ∈ L4019, b ≠ D3876)) ((fun b hb => (nm_cons ((there_ne (fun b_ hb_ => (S3869.ow b_ (((fun b hb => (.tail _ (.tail _ (List.mem_append_left _ hb)))) : ∀ b ∈ L3822, b ∈ (p3861 :: (D3789 :: (L3822 ++ (a3064 :: (a3115 :: (a3175 :: (a3284 :: (p2462 :: (x2474 :: (D2534 :: (D2611 :: (D2826 :: (D2928 :: (L3315 ++ (L3117 ++ (L3204 ++ (L3318 ++ [])))))))))))))))))) b_ hb_)).2.1) n3877) b hb) ((nl_symm (new_nl nb4020 (fun b_ hb_ => (S3869.ow b_ (((fun b hb => (.tail _ (.tail _ (List.mem_append_left _ hb)))) : ∀ b ∈ L3822, b ∈ (p3861 :: (D3789 :: (L3822 ++ (a3064 :: (a3115 :: (a3175 :: (a3284 :: (p2462 :: (x2474 :: (D2534 :: (D2611 :: (D2826 :: (D2928 :: (L3315 ++ (L3117 ++ (L3204 ++ (L3318 ++ [])))))))))))))))))) b_ hb_)).2.1))) b hb))) : ∀ b ∈ L3822, b ∉ (D3876 :: L4019)))), ((all_app nb3823 (all_cons (none_of_same (Same.trans eo3825 e3865) n3877) (fun b hb => none_of_same (Same.trans eo3825 e3865) (nb4020 b hb)))) : ∀ b ∈ (L3822 ++ (D3876 :: L4019)), H3747 b = none), ((all_app nd3824 (all_cons (ne_of_none (e3865 _ _ h3816) n3877).symm (new_ne2 nb4020 (S3869.ow _ (.tail _ (.head _))).2.1))) : ∀ b ∈ (L3822 ++ (D3876 :: L4019)), b ≠ D3789), (same_mut (Same.trans (Same.trans eo3825 e3865) eo4022) x4043 n3790), hw⟩
                              intro H4060 hw
                              obtain ⟨G4063, acc4065, vs4066, L4068, eG4064, S4061, h4072, h4073, h4074, h4075, h4076, h4077, h4078, h4079, h4080, h4081, h4062, w4082, w4083, w4084, w4085, d4067, nb4069, nd4070, eo4071, hw⟩ := hw
                              have hw := hK3788 _ (cW_mapA0 (rng_len _ _).symm hw)
                              have fr4086 := S3768.free n3790
                              have hw := cW_ok hw
                              have hw := hK3782 _ hw
                              exact ⟨D3789, (acc4065), (vs4066), L4068, _, rfl, eG4064, (S4061.sub (all_cons (.tail _ (List.mem_append_right _ (.tail _ (.tail _ (.tail _ (.tail _ (.head _))))))) (all_cons (.tail _ (List.mem_append_right _ (.tail _ (.tail _ (.tail _ (.tail _ (.tail _ (.head _)))))))) (all_cons (.tail _ (List.mem_append_right _ (.tail _ (.tail _ (.tail _ (.tail _ (.tail _ (.tail _ (.head _))))))))) (all_cons (.tail _ (List.mem_append_right _ (.tail _ (.tail _ (.tail _ (.tail _ (.tail _ (.tail _ (.tail _ (.head _)))))))))) (all_cons (.tail _ (List.mem_append_right _ (.tail _ (.tail _ (.tail _ (.tail _ (.tail _ (.tail _ (.tail _ (.tail _ (.head _))))))))))) (all_cons (.tail _ (List.mem_append_right _ (.tail _ (.tail _ (.tail _ (.tail _ (.tail _ (.tail _ (.tail _ (.tail _ (.tail _ (.head _)))))))))))) (all_cons (.tail _ (List.mem_append_right _ (.head _))) (all_cons (.tail _ (List.mem_append_right _ (.tail _ (.head _)))) (all_cons (.tail _ (List.mem_append_right _ (.tail _ (.tail _ (.head _))))) (all_cons (.tail _ (List.mem_append_right _ (.tail _ (.tail _ (.tail _ (.head _)))))) (all_cons (.head _) (all_app ((fun b hb => (.tail _ (List.mem_append_right _ (.tail _ (.tail _ (.tail _ (.tail _ (.tail _ (.tail _ (.tail _ (.tail _ (.tail _ (.tail _ (List.mem_append_left _ hb)))))))))))))) : ∀ b ∈ L3315, b ∈ (D3789 :: (L4068 ++ (a3064 :: (a3115 :: (a3175 :: (a3284 :: (p2462 :: (x2474 :: (D2534 :: (D2611 :: (D2826 :: (D2928 :: (L3315 ++ (L3117 ++ (L3204 ++ (L3318 ++ []))))))))))))))))) (all_app ((fun b hb => (.tail _ (List.mem_append_right _ (.tail _ (.tail _ (.tail _ (.tail _ (.tail _ (.tail _ (.tail _ (.tail _ (.tail _ (.tail _ (List.mem_append_right _ (List.mem_append_left _ hb))))))))))))))) : ∀ b ∈ L3117, b ∈ (D3789 :: (L4068 ++ (a3064 :: (a3115 :: (a3175 :: (a3284 :: (p2462 :: (x2474 :: (D2534 :: (D2611 :: (D2826 :: (D2928 :: (L3315 ++ (L3117 ++ (L3204 ++ (L3318 ++ []))))))))))))))))) (all_app ((fun b hb => (.tail _ (List.mem_append_right _ (.tail _ (.tail _ (.tail _ (.tail _ (.tail _ (.tail _ (.tail _ (.tail _ (.tail _ (.tail _ (List.mem_append_right _ (List.mem_append_right _ (List.mem_append_left _ hb)))))))))))))))) : ∀ b ∈ L3204, b ∈ (D3789 :: (L4068 ++ (a3064 :: (a3115 :: (a3175 :: (a3284 :: (p2462 :: (x2474 :: (D2534 :: (D2611 :: (D2826 :: (D2928 :: (L3315 ++ (L3117 ++ (L3204 ++ (L3318 ++ []))))))))))))))))) (all_app ((fun b hb => (.tail _ (List.mem_append_right _ (.tail _ (.tail _ (.tail _ (.tail _ (.tail _ (.tail _ (.tail _ (.tail _ (.tail _ (.tail _ (List.mem_append_right _ (List.mem_append_right _ (List.mem_append_right _ (List.mem_append_left _ hb))))))))))))))))) : ∀ b ∈ L3318, b ∈ (D3789 :: (L4068 ++ (a3064 :: (a3115 :: (a3175 :: (a3284 :: (p2462 :: (x2474 :: (D2534 :: (D2611 :: (D2826 :: (D2928 :: (L3315 ++ (L3117 ++ (L3204 ++ (L3318 ++ []))))))))))))))))) (all_app ((fun b hb => (.tail _ (List.mem_append_left _ hb))) : ∀ b ∈ L4068, b ∈ (D3789 :: (L4068 ++ (a3064 :: (a3115 :: (a3175 :: (a3284 :: (p2462 :: (x2474 :: (D2534 :: (D2611 :: (D2826 :: (D2928 :: (L3315 ++ (L3117 ++ (L3204 ++ (L3318 ++ []))))))))))))))))) all_nil))))))))))))))))), h4076, h4077, h4078, h4079, h4080, h4081, h4072, h4073, h4074, h4075, h4062, fr4086, (ne_of_none (e3748 _ _ (e3726 _ _ h3678)) n3790).symm, (ne_of_none (e3748 _ _ (e3726 _ _ h3679)) n3790).symm, (ne_of_none (e3748 _ _ (e3726 _ _ h3680)) n3790).symm, (ne_of_none (e3748 _ _ (e3726 _ _ h3681)) n3790).symm, (ne_of_none (e3748 _ _ h3745) n3790).symm, (ne_of_none (e3748 _ _ h3743) n3790).symm, (ne_of_none (e3748 _ _ (e3726 _ _ h3684)) n3790).symm, (ne_of_none (e3748 _ _ (e3726 _ _ h3685)) n3790).symm, (ne_of_none (e3748 _ _ (e3726 _ _ h3686)) n3790).symm, (ne_of_none (e3748 _ _ (e3726 _ _ h3687)) n3790).symm, (there_ne (fun b_ hb_ => (S3768.ow b_ (((fun b hb => (.tail _ (List.mem_append_right _ (.tail _ (.tail _ (.tail _ (.tail _ (.tail _ (.tail _ (.tail _ (.tail _ (.tail _ (.tail _ (List.mem_append_left _ hb)))))))))))))) : ∀ b ∈ L3315, b ∈ (a3727 :: (L3729 ++ (p2462 :: (x2474 :: (D2534 :: (D2611 :: (D2826 :: (D2928 :: (a3064 :: (a3115 :: (a3175 :: (a3284 :: (L3315 ++ (L3117 ++ (L3204 ++ (L3318 ++ []))))))))))))))))) b_ hb_)).2.1) n3790), (there_ne (fun b_ hb_ => (S3768.ow b_ (((fun b hb => (.tail _ (List.mem_append_right _ (.tail _ (.tail _ (.tail _ (.tail _ (.tail _ (.tail _ (.tail _ (.tail _ (.tail _ (.tail _ (List.mem_append_right _ (List.mem_append_left _ hb))))))))))))))) : ∀ b ∈ L3117, b ∈ (a3727 :: (L3729 ++ (p2462 :: (x2474 :: (D2534 :: (D2611 :: (D2826 :: (D2928 :: (a3064 :: (a3115 :: (a3175 :: (a3284 :: (L3315 ++ (L3117 ++ (L3204 ++ (L3318 ++ []))))))))))))))))) b_ hb_)).2.1) n3790), (there_ne (fun b_ hb_ => (S3768.ow b_ (((fun b hb => (.tail _ (List.mem_append_right _ (.tail _ (.tail _ (.tail _ (.tail _ (.tail _ (.tail _ (.tail _ (.tail _ (.tail _ (.tail _ (List.mem_append_right _ (List.mem_append_right _ (List.mem_append_left _ hb)))))))))))))))) : ∀ b ∈ L3204, b ∈ (a3727 :: (L3729 ++ (p2462 :: (x2474 :: (D2534 :: (D2611 :: (D2826 :: (D2928 :: (a3064 :: (a3115 :: (a3175 :: (a3284 :: (L3315 ++ (L3117 ++ (L3204 ++ (L3318 ++ []))))))))))))))))) b_ hb_)).2.1) n3790), (there_ne (fun b_ hb_ => (S3768.ow b_ (((fun b hb => (.tail _ (List.mem_append_right _ (.tail _ (.tail _ (.tail _ (.tail _ (.tail _ (.tail _ (.tail _ (.tail _ (.tail _ (.tail _ (List.mem_append_right _ (List.mem_append_right _ (List.mem_append_right _ (List.mem_append_left _ hb))))))))))))))))) : ∀ b ∈ L3318, b ∈ (a3727 :: (L3729 ++ (p2462 :: (x2474 :: (D2534 :: (D2611 :: (D2826 :: (D2928 :: (a3064 :: (a3115 :: (a3175 :: (a3284 :: (L3315 ++ (L3117 ++ (L3204 ++ (L3318 ++ []))))))))))))))))) b_ hb_)).2.1) n3790), nd4070, (new_ne2 nb4069 (S3768.ow _ (.tail _ (List.mem_append_right _ (.head _)))).2.1), (new_ne2 nb4069 (S3768.ow _ (.tail _ (List.mem_append_right _ (.tail _ (.head _))))).2.1), (new_ne2 nb4069 (S3768.ow _ (.tail _ (List.mem_append_right _ (.tail _ (.tail _ (.head _)))))).2.1), (new_ne2 nb4069 (S3768.ow _ (.tail _ (List.mem_append_right _ (.tail _ (.tail _ (.tail _ (.head _))))))).2.1), (new_ne2 nb4069 (S3768.ow _ (.tail _ (List.mem_append_right _ (.tail _ (.tail _ (.tail _ (.tail _ (.head _)))))))).2.1), (new_ne2 nb4069 (S3768.ow _ (.tail _ (List.mem_append_right _ (.tail _ (.tail _ (.tail _ (.tail _ (.tail _ (.head _))))))))).2.1), (new_ne2 nb4069 (S3768.ow _ (.tail _ (List.mem_append_right _ (.tail _ (.tail _ (.tail _ (.tail _ (.tail _ (.tail _ (.head _)))))))))).2.1), (new_ne2 nb4069 (S3768.ow _ (.tail _ (List.mem_append_right _ (.tail _ (.tail _ (.tail _ (.tail _ (.tail _ (.tail _ (.tail _ (.head _))))))))))).2.1), (new_ne2 nb4069 (S3768.ow _ (.tail _ (List.mem_append_right _ (.tail _ (.tail _ (.tail _ (.tail _ (.tail _ (.tail _ (.tail _ (.tail _ (.head _)))))))))))).2.1), (new_ne2 nb4069 (S3768.ow _ (.tail _ (List.mem_append_right _ (.tail _ (.tail _ (.tail _ (.tail _ (.tail _ (.tail _ (.tail _ (.tail _ (.tail _ (.head _))))))))))))).2.1), (new_nl nb4069 (fun b_ hb_ => (S3768.ow b_ (((fun b hb => (.tail _ (List.mem_append_right _ (.tail _ (.tail _ (.tail _ (.tail _ (.tail _ (.tail _ (.tail _ (.tail _ (.tail _ (.tail _ (List.mem_append_left _ hb)))))))))))))) : ∀ b ∈ L3315, b ∈ (a3727 :: (L3729 ++ (p2462 :: (x2474 :: (D2534 :: (D2611 :: (D2826 :: (D2928 :: (a3064 :: (a3115 :: (a3175 :: (a3284 :: (L3315 ++ (L3117 ++ (L3204 ++ (L3318 ++ []))))))))))))))))) b_ hb_)).2.1)), (new_nl nb4069 (fun b_ hb_ => (S3768.ow b_ (((fun b hb => (.tail _ (List.mem_append_right _ (.tail _ (.tail _ (.tail _ (.tail _ (.tail _ (.tail _ (.tail _ (.tail _ (.tail _ (.tail _ (List.mem_append_right _ (List.mem_append_left _ hb))))))))))))))) : ∀ b ∈ L3117, b ∈ (a3727 :: (L3729 ++ (p2462 :: (x2474 :: (D2534 :: (D2611 :: (D2826 :: (D2928 :: (a3064 :: (a3115 :: (a3175 :: (a3284 :: (L3315 ++ (L3117 ++ (L3204 ++ (L3318 ++ []))))))))))))))))) b_ hb_)).2.1)), (new_nl nb4069 (fun b_ hb_ => (S3768.ow b_ (((fun b hb => (.tail _ (List.mem_append_right _ (.tail _ (.tail _ (.tail _ (.tail _ (.tail _ (.tail _ (.tail _ (.tail _ (.tail _ (.tail _ (List.mem_append_right _ (List.mem_append_right _ (List.mem_append_left _ hb)))))))))))))))) : ∀ b ∈ L3204, b ∈ (a3727 :: (L3729 ++ (p2462 :: (x2474 :: (D2534 :: (D2611 :: (D2826 :: (D2928 :: (a3064 :: (a3115 :: (a3175 :: (a3284 :: (L3315 ++ (L3117 ++ (L3204 ++ (L3318 ++ []))))))))))))))))) b_ hb_)).2.1)), (new_nl nb4069 (fun b_ hb_ => (S3768.ow b_ (((fun b hb => (.tail _ (List.mem_append_right _ (.tail _ (.tail _ (.tail _ (.tail _ (.tail _ (.tail _ (.tail _ (.tail _ (.tail _ (.tail _ (List.mem_append_right _ (List.mem_append_right _ (List.mem_append_right _ (List.mem_append_left _ hb))))))))))))))))) : ∀ b ∈ L3318, b ∈ (a3727 :: (L3729 ++ (p2462 :: (x2474 :: (D2534 :: (D2611 :: (D2826 :: (D2928 :: (a3064 :: (a3115 :: (a3175 :: (a3284 :: (L3315 ++ (L3117 ++ (L3204 ++ (L3318 ++ []))))))))))))))))) b_ hb_)).2.1)), w4082, w4083, w4084, w4085, d4067, hw⟩
                            · intro σ H4087 hw
                              obtain ⟨p3778, cut_3777, vs3779, L3780, G4135, rfl, eG4136, S4088, h4089, h4090, h4091, h4092, h4093, h4094, h4095, h4096, h4097, h4098, h4099, fr4100, ne4101, ne4102, ne4103, ne4104, ne4105, ne4106, ne4107, ne4108, ne4109, ne4110, ne4111, ne4112, ne4113, ne4114, ne4115, ne4116, ne4117, ne4118, ne4119, ne4120, ne4121, ne4122, ne4123, ne4124, ne4125, ne4126, ne4127, ne4128, ne4129, w4130, w4131, w4132, w4133, w4134, hw⟩ := hw
                              unfold F_law_k13 at hw
                              refine ⟨_, rfl, _, rfl, rfl, rfl, G4135, _, _, v2485, _, _, rfl, S4088.sG, (hide_nil h4090), (Rp.hide_nil (rp_mk_list h4093 (RpAll.mono S4088.sG (RpAll.mono eG4136 (RpAll.mono eG3766 (RpAll.mono eG3756 (RpAll.mono eG3734 (RpAll.mono eG3718 (RpAll.mono eG3291 (RpAll.mono eG3280 (RpAll.mono eG3182 (RpAll.mono eG3122 (RpAll.mono eG3111 (RpAll.mono eG3071 (RpAll.mono eG3055 (RpAll.mono eG3045 (RpAll.mono eG3021 d2912))))))))))))))))), cW_call hw (fun v4137 hw H4138 a4140 vs4141 L4142 G4143 n4144 nb4145 nd4146 e4139 eG4147 sG4148 hn4149 ga4150 gL4151 h4152 w4153 => ?_) (fun e he => (hE e he).elim)⟩
                              have fr4154 := S4088.free n4144
                              have S4155 : Sep _ _ _ _ H4138 (a4140 :: (L4142 ++ (p2462 :: (x2474 :: (D2534 :: (D2611 :: (D2826 :: (D2928 :: (a3064 :: (a3115 :: (a3175 :: (a3284 :: (p3778 :: (L3315 ++ (L3117 ++ (L3204 ++ (L3318 ++ (L3780 ++ [])))))))))))))))))) := Sep.steptree S4088 e4139 eG4147 sG4148 hn4149 (a4140 :: L4142) (all_cons ⟨n4144, ga4150, some_ne h4152⟩ (fun b hb => ⟨nb4145 b hb, gL4151 b hb, OwAll.there w4153 b hb⟩))
                              have h4156 := (e4139 _ _ h4099)
                              have w4157 : OwAll G4143 H4138 L3780 (vs3779) ((cut_3777 : (List (List (List Int)))).map (oL (oL oI))) := (OwAll.mono eG4147 keeps_refl (OwAll.mono (Same.refl _) (keeps_same e4139) w4134))
                              refine ⟨_, rfl, _, rfl, _, _, (rp_mk_list h4152 (OwAll.rpA w4153 (encO_L (encO_L encO_I)) S4155.sG)), (rp_mk_list h4156 (OwAll.rpA w4157 (encO_L (encO_L encO_I)) S4155.sG)), _, rfl, ?_⟩
                              refine iteN (fun c4158 => ?_) (fun c4158 => ?_)
                              · have hw := cW_neg c4158 hw
                                refine iteT ?_
                                have hw := cW_ok hw
                                exact eq_bl (k _) (hK0 _ hw).symm
                              · have hw := cW_pos c4158 hw
                                have h4159 := (e4139 _ _ h4093)
                                refine ⟨_, rfl, _, rfl, _, _, (rp_mk_list h4159 (RpAll.mono S4155.sG (RpAll.mono eG4147 (RpAll.mono eG4136 (RpAll.mono eG3766 (RpAll.mono eG3756 (RpAll.mono eG3734 (RpAll.mono eG3718 (RpAll.mono eG3291 (RpAll.mono eG3280 (RpAll.mono eG3182 (RpAll.mono eG3122 (RpAll.mono eG3111 (RpAll.mono eG3071 (RpAll.mono eG3055 (RpAll.mono eG3045 (RpAll.mono eG3021 d2912))))))))))))))))), (rp_mk_list (S4155.sG _ _ (eG4147 _ _ (eG4136 _ _ hg3769))) (RpAll.mono S4155.sG (RpAll.mono eG4147 (RpAll.mono eG4136 d3770)))), _, rfl, ?_⟩
                                refine iteN (fun c4160 => ?_) (fun c4160 => ?_)
                                · have hw := cW_neg c4160 hw
                                  have hw := cW_ok hw
                                  exact eq_bl (k _) (hK0 _ hw).symm
                                · have hw := cW_pos c4160 hw
                                  obtain ⟨g4161, hw⟩ := cW_grd hw
                                  obtain ⟨K4166, hK4167, hw⟩ := cW_push hw
                                  refine ⟨_, rfl, _, rfl, g4161.1, g4161.2, for_range (lo := 0) (n := Int.toNat (count_2516)) (fun i σ H' => ∃ (u4168 : Option V) (cut_4169 : (List (List (List Int)))) (vs4170 : List V) (L4171 : List Addr) (again_4172 : (List (List (List Int)))) (vs4173 : List V) (L4174 : List Addr) (G' : Hp), σ = [some (V.ref a_script), some (V.ref p2462), some (V.int ((1 + (itD (v2459) (0))))), some (V.int ((1 + (itD (v2459) (1))))), some (V.ref x2474), some (V.int (top_2496)), some (V.int (count_2516)), some (V.ref D2534), some (V.ref D2611), some (V.ref a2815), some (V.ref D2826), some (V.ref D2928), some (V.ref a3038), some (V.ref a3064), some (V.ref a3115), some (V.ref a3175), some (V.ref a3284), u4168, u3320, some (V.ref a3749), some (V.ref p3778), some (V.ref a4140), none, none] ∧ Same G4143 G' ∧ Sep [] H H G' H' (p2462 :: (x2474 :: (D2534 :: (D2611 :: (D2826 :: (D2928 :: (a3064 :: (a3115 :: (a3175 :: (a3284 :: (p3778 :: (a4140 :: (L3315 ++ (L3117 ++ (L3204 ++ (L3318 ++ (L4171 ++ (L4174 ++ [])))))))))))))))))) ∧ H' p2462 = some (.lst ((v2459 : (List Int)).map V.int)) ∧ H' x2474 = some (.ins AD.c_Format dx2475 [("width", V.int (v2485.width)), ("height", V.int (v2485.height)), ("depth", V.int (v2485.depth)), ("chroma", V.int (v2485.chroma))]) ∧ H' D2534 = some (.lst (vs2595)) ∧ H' D2611 = some (.lst (vs2677)) ∧ H' D2826 = some (.lst (vs2911)) ∧ H' D2928 = some (.lst (vs3023)) ∧ H' a3064 = some (.lst (vs3314)) ∧ H' a3115 = some (.lst (vs3116)) ∧ H' a3175 = some (.lst (vs3203)) ∧ H' a3284 = some (.lst (vs3317)) ∧ H' p3778 = some (.lst (vs4170)) ∧ H' a4140 = some (.lst (vs4173)) ∧ (∀ b ∈ L4171, b ≠ p2462) ∧ (∀ b ∈ L4171, b ≠ x2474) ∧ (∀ b ∈ L4171, b ≠ D2534) ∧ (∀ b ∈ L4171, b ≠ D2611) ∧ (∀ b ∈ L4171, b ≠ D2826) ∧ (∀ b ∈ L4171, b ≠ D2928) ∧ (∀ b ∈ L4171, b ≠ a3064) ∧ (∀ b ∈ L4171, b ≠ a3115) ∧ (∀ b ∈ L4171, b ≠ a3175) ∧ (∀ b ∈ L4171, b ≠ a3284) ∧ (∀ b ∈ L4171, b ≠ p3778) ∧ (∀ b ∈ L4171, b ≠ a4140) ∧ (∀ b ∈ L4171, b ∉ L3315) ∧ (∀ b ∈ L4171, b ∉ L3117) ∧ (∀ b ∈ L4171, b ∉ L3204) ∧ (∀ b ∈ L4171, b ∉ L3318) ∧ (∀ b ∈ L4171, b ∉ L4174) ∧ (∀ b ∈ L4174, b ≠ p2462) ∧ (∀ b ∈ L4174, b ≠ x2474) ∧ (∀ b ∈ L4174, b ≠ D2534) ∧ (∀ b ∈ L4174, b ≠ D2611) ∧ (∀ b ∈ L4174, b ≠ D2826) ∧ (∀ b ∈ L4174, b ≠ D2928) ∧ (∀ b ∈ L4174, b ≠ a3064) ∧ (∀ b ∈ L4174, b ≠ a3115) ∧ (∀ b ∈ L4174, b ≠ a3175) ∧ (∀ b ∈ L4174, b ≠ a3284) ∧ (∀ b ∈ L4174, b ≠ p3778) ∧ (∀ b ∈ L4174, b ≠ a4140) ∧ (∀ b ∈ L4174, b ∉ L3315) ∧ (∀ b ∈ L4174, b ∉ L3117) ∧ (∀ b ∈ L4174, b ∉ L3204) ∧ (∀ b ∈ L4174, b ∉ L3318) ∧ OwAll G' H' L3315 (vs3314) ((actual_3313 : (List (List (List Int)))).map (oL (oL oI))) ∧ OwAll G' H' L3117 (vs3116) ((setL (v3112) (0) (setL ((itD (v3112) (0))) (0) (setL ((itD ((itD (v3112) (0))) (0))) (0) ((top_2496 + 1)))) : (List (List (List Int)))).map (oL (oL oI))) ∧ OwAll G' H' L3204 (vs3203) ((spoilt_3202 : (List (List (List Int)))).map (oL (oL oI))) ∧ OwAll G' H' L3318 (vs3317) ((longer_3316 : (List (List (List Int)))).map (oL (oL oI))) ∧ OwAll G' H' L4171 (vs4170) ((cut_4169 : (List (List (List Int)))).map (oL (oL oI))) ∧ OwAll G' H' L4174 (vs4173) ((again_4172 : (List (List (List Int)))).map (oL (oL oI))) ∧ cW (forS (List.drop i (rng (0) (Int.toNat (count_2516)))) (cut_4169, again_4172) (fun s x => F_law_b16  (s.1) (s.2) x)) K4166 EE) ?_ ?_ ?_⟩
                                  · have h4175 := (e4139 _ _ h4089)
                                    have h4176 := (e4139 _ _ h4090)
                                    have h4177 := (e4139 _ _ h4091)
                                    have h4178 := (e4139 _ _ h4092)
                                    have h4179 := (e4139 _ _ h4094)
                                    have h4180 := (e4139 _ _ h4095)
                                    have h4181 := (e4139 _ _ h4096)
                                    have h4182 := (e4139 _ _ h4097)
                                    have h4183 := (e4139 _ _ h4098)
                                    have w4184 : OwAll G4143 H4138 L3315 (vs3314) ((actual_3313 : (List (List (List Int)))).map (oL (oL oI))) := (OwAll.mono eG4147 keeps_refl (OwAll.mono (Same.refl _) (keeps_same e4139) w4130))
                                    have w4185 : OwAll G4143 H4138 L3117 (vs3116) ((setL (v3112) (0) (setL ((itD (v3112) (0))) (0) (setL ((itD ((itD (v3112) (0))) (0))) (0) ((top_2496 + 1)))) : (List (List (List Int)))).map (oL (oL oI))) := (OwAll.mono eG4147 keeps_refl (OwAll.mono (Same.refl _) (keeps_same e4139) w4131))
                                    have w4186 : OwAll G4143 H4138 L3204 (vs3203) ((spoilt_3202 : (List (List (List Int)))).map (oL (oL oI))) := (OwAll.mono eG4147 keeps_refl (OwAll.mono (Same.refl _) (keeps_same e4139) w4132))
                                    have w4187 : OwAll G4143 H4138 L3318 (vs3317) ((longer_3316 : (List (List (List Int)))).map (oL (oL oI))) := (OwAll.mono eG4147 keeps_refl (OwAll.mono (Same.refl _) (keeps_same e4139) w4133))
                                    exact ⟨_, (cut_3777), (vs3779), L3780, (v4137), (vs4141), L4142, _, rfl, (Same.refl _), (S4155.sub (all_cons (.tail _ (List.mem_append_right _ (.head _))) (all_cons (.tail _ (List.mem_append_right _ (.tail _ (.head _)))) (all_cons (.tail _ (List.mem_append_right _ (.tail _ (.tail _ (.head _))))) (all_cons (.tail _ (List.mem_append_right _ (.tail _ (.tail _ (.tail _ (.head _)))))) (all_cons (.tail _ (List.mem_append_right _ (.tail _ (.tail _ (.tail _ (.tail _ (.head _))))))) (all_cons (.tail _ (List.mem_append_right _ (.tail _ (.tail _ (.tail _ (.tail _ (.tail _ (.head _)))))))) (all_cons (.tail _ (List.mem_append_right _ (.tail _ (.tail _ (.tail _ (.tail _ (.tail _ (.tail _ (.head _))))))))) (all_cons (.tail _ (List.mem_append_right _ (.tail _ (.tail _ (.tail _ (.tail _ (.tail _ (.tail _ (.tail _ (.head _)))))))))) (all_cons (.tail _ (List.mem_append_right _ (.tail _ (.tail _ (.tail _ (.tail _ (.tail _ (.tail _ (.tail _ (.tail _ (.head _))))))))))) (all_cons (.tail _ (List.mem_append_right _ (.tail _ (.tail _ (.tail _ (.tail _ (.tail _ (.tail _ (.tail _ (.tail _ (.tail _ (.head _)))))))))))) (all_cons (.tail _ (List.mem_append_right _ (.tail _ (.tail _ (.tail _ (.tail _ (.tail _ (.tail _ (.tail _ (.tail _ (.tail _ (.tail _ (.head _))))))))))))) (all_cons (.head _) (all_app ((fun b hb => (.tail _ (List.mem_append_right _ (.tail _ (.tail _ (.tail _ (.tail _ (.tail _ (.tail _ (.tail _ (.tail _ (.tail _ (.tail _ (.tail _ (List.mem_append_left _ hb))))))))))))))) : ∀ b ∈ L3315, b ∈ (a4140 :: (L4142 ++ (p2462 :: (x2474 :: (D2534 :: (D2611 :: (D2826 :: (D2928 :: (a3064 :: (a3115 :: (a3175 :: (a3284 :: (p3778 :: (L3315 ++ (L3117 ++ (L3204 ++ (L3318 ++ (L3780 ++ []))))))))))))))))))) (all_app ((fun b hb => (.tail _ (List.mem_append_right _ (.tail _ (.tail _ (.tail _ (.tail _ (.tail _ (.tail _ (.tail _ (.tail _ (.tail _ (.tail _ (.tail _ (List.mem_append_right _ (List.mem_append_left _ hb)))))))))))))))) : ∀ b ∈ L3117, b ∈ (a4140 :: (L4142 ++ (p2462 :: (x2474 :: (D2534 :: (D2611 :: (D2826 :: (D2928 :: (a3064 :: (a3115 :: (a3175 :: (a3284 :: (p3778 :: (L3315 ++ (L3117 ++ (L3204 ++ (L3318 ++ (L3780 ++ []))))))))))))))))))) (all_app ((fun b hb => (.tail _ (List.mem_append_right _ (.tail _ (.tail _ (.tail _ (.tail _ (.tail _ (.tail _ (.tail _ (.tail _ (.tail _ (.tail _ (.tail _ (List.mem_append_right _ (List.mem_append_right _ (List.mem_append_left _ hb))))))))))))))))) : ∀ b ∈ L3204, b ∈ (a4140 :: (L4142 ++ (p2462 :: (x2474 :: (D2534 :: (D2611 :: (D2826 :: (D2928 :: (a3064 :: (a3115 :: (a3175 :: (a3284 :: (p3778 :: (L3315 ++ (L3117 ++ (L3204 ++ (L3318 ++ (L3780 ++ []))))))))))))))))))) (all_app ((fun b hb => (.tail _ (List.mem_append_right _ (.tail _ (.tail _ (.tail _ (.tail _ (.tail _ (.tail _ (.tail _ (.tail _ (.tail _ (.tail _ (.tail _ (List.mem_append_right _ (List.mem_append_right _ (List.mem_append_right _ (List.mem_append_left _ hb)))))))))))))))))) : ∀ b ∈ L3318, b ∈ (a4140 :: (L4142 ++ (p2462 :: (x2474 :: (D2534 :: (D2611 :: (D2826 :: (D2928 :: (a3064 :: (a3115 :: (a3175 :: (a3284 :: (p3778 :: (L3315 ++ (L3117 ++ (L3204 ++ (L3318 ++ (L3780 ++ []))))))))))))))))))) (all_app ((fun b hb => (.tail _ (List.mem_append_right _ (.tail _ (.tail _ (.tail _ (.tail _ (.tail _ (.tail _ (.tail _ (.tail _ (.tail _ (.tail _ (.tail _ (List.mem_append_right _ (List.mem_append_right _ (List.mem_append_right _ (List.mem_append_right _ (List.mem_append_left _ hb))))))))))))))))))) : ∀ b ∈ L3780, b ∈ (a4140 :: (L4142 ++ (p2462 :: (x2474 :: (D2534 :: (D2611 :: (D2826 :: (D2928 :: (a3064 :: (a3115 :: (a3175 :: (a3284 :: (p3778 :: (L3315 ++ (L3117 ++ (L3204 ++ (L3318 ++ (L3780 ++ []))))))))))))))))))) (all_app ((fun b hb => (.tail _ (List.mem_append_left _ hb))) : ∀ b ∈ L4142, b ∈ (a4140 :: (L4142 ++ (p2462 :: (x2474 :: (D2534 :: (D2611 :: (D2826 :: (D2928 :: (a3064 :: (a3115 :: (a3175 :: (a3284 :: (p3778 :: (L3315 ++ (L3117 ++ (L3204 ++ (L3318 ++ (L3780 ++ []))))))))))))))))))) all_nil))))))))))))))))))), h4175, h4176, h4177, h4178, h4159, h4179, h4180, h4181, h4182, h4183, h4156, h4152, ne4116, ne4117, ne4118, ne4119, ne4120, ne4121, ne4122, ne4123, ne4124, ne4125, ne4115, (there_ne (fun b_ hb_ => (S4088.ow b_ (((fun b hb => (.tail _ (.tail _ (.tail _ (.tail _ (.tail _ (.tail _ (.tail _ (.tail _ (.tail _ (.tail _ (.tail _ (List.mem_append_right _ (List.mem_append_right _ (List.mem_append_right _ (List.mem_append_right _ (List.mem_append_left _ hb))))))))))))))))) : ∀ b ∈ L3780, b ∈ (p2462 :: (x2474 :: (D2534 :: (D2611 :: (D2826 :: (D2928 :: (a3064 :: (a3115 :: (a3175 :: (a3284 :: (p3778 :: (L3315 ++ (L3117 ++ (L3204 ++ (L3318 ++ (L3780 ++ []))))))))))))))))) b_ hb_)).2.1) n4144), ne4126, ne4127, ne4128, ne4129, (fun b hb => ((nl_symm (new_nl nb4145 (fun b_ hb_ => (S4088.ow b_ (((fun b hb => (.tail _ (.tail _ (.tail _ (.tail _ (.tail _ (.tail _ (.tail _ (.tail _ (.tail _ (.tail _ (.tail _ (List.mem_append_right _ (List.mem_append_right _ (List.mem_append_right _ (List.mem_append_right _ (List.mem_append_left _ hb))))))))))))))))) : ∀ b ∈ L3780, b ∈ (p2462 :: (x2474 :: (D2534 :: (D2611 :: (D2826 :: (D2928 :: (a3064 :: (a3115 :: (a3175 :: (a3284 :: (p3778 :: (L3315 ++ (L3117 ++ (L3204 ++ (L3318 ++ (L3780 ++ []))))))))))))))))) b_ hb_)).2.1))) b hb)), (new_ne2 nb4145 (S4088.ow _ (.head _)).2.1), (new_ne2 nb4145 (S4088.ow _ (.tail _ (.head _))).2.1), (new_ne2 nb4145 (S4088.ow _ (.tail _ (.tail _ (.head _)))).2.1), (new_ne2 nb4145 (S4088.ow _ (.tail _ (.tail _ (.tail _ (.head _))))).2.1), (new_ne2 nb4145 (S4088.ow _ (.tail _ (.tail _ (.tail _ (.tail _ (.head _)))))).2.1), (new_ne2 nb4145 (S4088.ow _ (.tail _ (.tail _ (.tail _ (.tail _ (.tail _ (.head _))))))).2.1), (new_ne2 nb4145 (S4088.ow _ (.tail _ (.tail _ (.tail _ (.tail _ (.tail _ (.tail _ (.head _)))))))).2.1), (new_ne2 nb4145 (S4088.ow _ (.tail _ (.tail _ (.tail _ (.tail _ (.tail _ (.tail _ (.tail _ (.head _))))))))).2.1), (new_ne2 nb4145 (S4088.ow _ (.tail _ (.tail _ (.tail _ (.tail _ (.tail _ (.tail _ (.tail _ (.tail _ (.head _)))))))))).2.1), (new_ne2 nb4145 (S4088.ow _ (.tail _ (.tail _ (.tail _ (.tail _ (.tail _ (.tail _ (.tail _ (.tail _ (.tail _ (.head _))))))))))).2.1), (new_ne2 nb4145 (S4088.ow _ (.tail _ (.tail _ (.tail _ (.tail _ (.tail _ (.tail _ (.tail _ (.tail _ (.tail _ (.tail _ (.head _)))))))))))).2.1), nd4146, (new_nl nb4145 (fun b_ hb_ => (S4088.ow b_ (((fun b hb => (.tail _ (.tail _ (.tail _ (.tail _ (.tail _ (.tail _ (.tail _ (.tail _ (.tail _ (.tail _ (.tail _ (List.mem_append_left _ hb))))))))))))) : ∀ b ∈ L3315, b ∈ (p2462 :: (x2474 :: (D2534 :: (D2611 :: (D2826 :: (D2928 :: (a3064 :: (a3115 :: (a3175 :: (a3284 :: (p3778 :: (L3315 ++ (L3117 ++ (L3204 ++ (L3318 ++ (L3780 ++ []))))))))))))))))) b_ hb_)).2.1)), (new_nl nb4145 (fun b_ hb_ => (S4088.ow b_ (((fun b hb => (.tail _ (.tail _ (.tail _ (.tail _ (.tail _ (.tail _ (.tail _ (.tail _ (.tail _ (.tail _ (.tail _ (List.mem_append_right _ (List.mem_append_left _ hb)))))))))))))) : ∀ b ∈ L3117, b ∈ (p2462 :: (x2474 :: (D2534 :: (D2611 :: (D2826 :: (D2928 :: (a3064 :: (a3115 :: (a3175 :: (a3284 :: (p3778 :: (L3315 ++ (L3117 ++ (L3204 ++ (L3318 ++ (L3780 ++ []))))))))))))))))) b_ hb_)).2.1)), (new_nl nb4145 (fun b_ hb_ => (S4088.ow b_ (((fun b hb => (.tail _ (.tail _ (.tail _ (.tail _ (.tail _ (.tail _ (.tail _ (.tail _ (.tail _ (.tail _ (.tail _ (List.mem_append_right _ (List.mem_append_right _ (List.mem_append_left _ hb))))))))))))))) : ∀ b ∈ L3204, b ∈ (p2462 :: (x2474 :: (D2534 :: (D2611 :: (D2826 :: (D2928 :: (a3064 :: (a3115 :: (a3175 :: (a3284 :: (p3778 :: (L3315 ++ (L3117 ++ (L3204 ++ (L3318 ++ (L3780 ++ []))))))))))))))))) b_ hb_)).2.1)), (new_nl nb4145 (fun b_ hb_ => (S4088.ow b_ (((fun b hb => (.tail _ (.tail _ (.tail _ (.tail _ (.tail _ (.tail _ (.tail _ (.tail _ (.tail _ (.tail _ (.tail _ (List.mem_append_right _ (List.mem_append_right _ (List.mem_append_right _ (List.mem_append_left _ hb)))))))))))))))) : ∀ b ∈ L3318, b ∈ (p2462 :: (x2474 :: (D2534 :: (D2611 :: (D2826 :: (D2928 :: (a3064 :: (a3115 :: (a3175 :: (a3284 :: (p3778 :: (L3315 ++ (L3117 ++ (L3204 ++ (L3318 ++ (L3780 ++ []))))))))))))))))) b_ hb_)).2.1)), w4184, w4185, w4186, w4187, w4157, w4153, hw⟩
                                  · intro i σ H4188 hi hw
                                    obtain ⟨u4168, cut_4169, vs4170, L4171, again_4172, vs4173, L4174, G4241, rfl, eG4242, S4189, h4190, h4191, h4192, h4193, h4194, h4195, h4196, h4197, h4198, h4199, h4200, h4201, ne4202, ne4203, ne4204, ne4205, ne4206, ne4207, ne4208, ne4209, ne4210, ne4211, ne4212, ne4213, ne4214, ne4215, ne4216, ne4217, ne4218, ne4219, ne4220, ne4221, ne4222, ne4223, ne4224, ne4225, ne4226, ne4227, ne4228, ne4229, ne4230, ne4231, ne4232, ne4233, ne4234, w4235, w4236, w4237, w4238, w4239, w4240, hw⟩ := hw
                                    have hw := cW_forS (rng_get hi) hw
                                    generalize (0 + (i : Int)) = x4243 at hw ⊢
                                    have hw : cW (F_law_b16  (cut_4169) (again_4172) (x4243)) _ EE := hw
                                    unfold F_law_b16 at hw
                                    obtain ⟨K4246, hK4247, hw⟩ := cW_name hw
                                    obtain ⟨g4249, hw⟩ := cW_grd hw
                                    obtain ⟨v4250, L4251, a4252, w4253, hs4254, up4255, gr4256⟩ := OwAll.partM (k := x4243) w4240 g4249
                                    obtain ⟨b4257, vs4258, L4259, rfl, rfl, h4260, w4261, nb4262⟩ := Ow.toList w4253
                                    obtain ⟨g4263, hw⟩ := cW_grd hw
                                    obtain ⟨v4264, L4265, a4266, w4267, hs4268, up4269, gr4270⟩ := OwAll.partM (k := 0) w4261 g4263
                                    obtain ⟨b4271, rfl, rfl, h4272⟩ := Ow.toInts w4267
                                    obtain ⟨g4273, hw⟩ := cW_grd hw
                                    refine ⟨_, rfl, _, rfl, _, rfl, _, _, _, _, rfl, rfl, (SqL.of h4201), a4252, _, _, _, _, rfl, rfl, (SqL.of h4260), a4266, _, _, _, _, rfl, rfl, h4272, (ixN_map g4273), ?_⟩
                                    generalize g4274 : upd H4188 b4271 _ = H4275
                                    obtain ⟨x4276, h4277⟩ := gen_mut g4274
                                    have h4278 : H4275 b4271 = some (.lst ((setL ((itD ((itD (again_4172) (x4243))) (0))) (0) ((-9)) : (List Int)).map V.int)) := set_map h4277
                                    have S4279 := S4189.mut1 x4276 (((fun b hb => (((fun b hb => (.tail _ (.tail _ (.tail _ (.tail _ (.tail _ (.tail _ (.tail _ (.tail _ (.tail _ (.tail _ (.tail _ (.tail _ (List.mem_append_right _ (List.mem_append_right _ (List.mem_append_right _ (List.mem_append_right _ (List.mem_append_right _ (List.mem_append_left _ hb))))))))))))))))))) : ∀ b ∈ L4174, b ∈ (p2462 :: (x2474 :: (D2534 :: (D2611 :: (D2826 :: (D2928 :: (a3064 :: (a3115 :: (a3175 :: (a3284 :: (p3778 :: (a4140 :: (L3315 ++ (L3117 ++ (L3204 ++ (L3318 ++ (L4171 ++ (L4174 ++ []))))))))))))))))))) : ∀ b ∈ L4174, b ∈ (p2462 :: (x2474 :: (D2534 :: (D2611 :: (D2826 :: (D2928 :: (a3064 :: (a3115 :: (a3175 :: (a3284 :: (p3778 :: (a4140 :: (L3315 ++ (L3117 ++ (L3204 ++ (L3318 ++ (L4171 ++ (L4174 ++ []))))))))))))))))))) b ((fun c hc => hs4254 c (List.mem_cons_of_mem _ hc)) b hb)) : ∀ b ∈ L4259, b ∈ (p2462 :: (x2474 :: (D2534 :: (D2611 :: (D2826 :: (D2928 :: (a3064 :: (a3115 :: (a3175 :: (a3284 :: (p3778 :: (a4140 :: (L3315 ++ (L3117 ++ (L3204 ++ (L3318 ++ (L4171 ++ (L4174 ++ []))))))))))))))))))) _ (hs4268 _ List.mem_cons_self)) h4278
                                    have w4280 : OwAll G4241 H4275 L4259 (vs4258) ((setL ((itD (again_4172) (x4243))) (0) (setL ((itD ((itD (again_4172) (x4243))) (0))) (0) ((-9))) : (List (List Int))).map (oL oI)) := upd_tree up4269 x4276 List.mem_cons_self (Ow.ints h4278)
                                    have hw := cW_bnd hw
                                    have h4282 := (x4276 _ _ h4260 (nb4262 _ (hs4268 _ List.mem_cons_self)).symm)
                                    have w4283 : OwAll G4241 H4275 L4174 (vs4173) ((setL (again_4172) (x4243) (setL ((itD (again_4172) (x4243))) (0) (setL ((itD ((itD (again_4172) (x4243))) (0))) (0) ((-9)))) : (List (List (List Int)))).map (oL (oL oI))) := upd_tree up4255 x4276 (List.mem_cons_of_mem _ (hs4268 _ List.mem_cons_self)) (Ow.list h4282 w4280 (nb4262 : ∀ b ∈ L4259, b ≠ b4257))
                                    have hw := cW_bnd hw
                                    obtain ⟨g4285, hw⟩ := cW_grd hw
                                    have w4286 : OwAll G4241 H4275 L4171 (vs4170) ((cut_4169 : (List (List (List Int)))).map (oL (oL oI))) := (OwAll.mono (Same.refl _) (keeps_mut x4276 ((fun b hb z => (fun b hb => ((nl_symm (fun c hc => ((nl_symm ne4218) : ∀ c ∈ L4174, c ∉ L4171) c ((fun c hc => hs4254 c (List.mem_cons_of_mem _ hc)) c hc))) b hb)) b hb (z ▸ (hs4268 _ List.mem_cons_self))) : ∀ b ∈ L4171, b ≠ b4271)) w4239)
                                    obtain ⟨v4287, L4288, a4289, w4290, hs4291, up4292, gr4293⟩ := OwAll.partM (k := x4243) w4286 g4285
                                    have h4294 := (x4276 _ _ h4200 ((((fun b hb => (ne4229 : ∀ b ∈ L4174, b ≠ p3778) b ((fun c hc => hs4254 c (List.mem_cons_of_mem _ hc)) b hb)) : ∀ b ∈ L4259, b ≠ p3778) _ (hs4268 _ List.mem_cons_self))).symm)
                                    obtain ⟨b4295, vs4296, L4297, rfl, rfl, h4298, w4299, nb4300⟩ := Ow.toList w4290
                                    obtain ⟨g4301, hw⟩ := cW_grd hw
                                    obtain ⟨v4302, L4303, a4304, w4305, hs4306, up4307, gr4308⟩ := OwAll.partM (k := 0) w4299 g4301
                                    obtain ⟨b4309, rfl, rfl, h4310⟩ := Ow.toInts w4305
                                    obtain ⟨g4311, hw⟩ := cW_grd hw
                                    refine ⟨_, rfl, _, rfl, _, rfl, _, _, _, _, rfl, rfl, (SqL.of h4294), a4289, _, _, _, _, rfl, rfl, (SqL.of h4298), a4304, _, _, _, _, rfl, rfl, h4310, (ixN_map g4311), ?_⟩
                                    generalize g4312 : upd H4275 b4309 _ = H4313
                                    obtain ⟨x4314, h4315⟩ := gen_mut g4312
                                    have h4316 : H4313 b4309 = some (.lst ((setL ((itD ((itD (cut_4169) (x4243))) (0))) (0) ((-9)) : (List Int)).map V.int)) := set_map h4315
                                    have S4317 := S4279.mut1 x4314 (((fun b hb => (((fun b hb => (.tail _ (.tail _ (.tail _ (.tail _ (.tail _ (.tail _ (.tail _ (.tail _ (.tail _ (.tail _ (.tail _ (.tail _ (List.mem_append_right _ (List.mem_append_right _ (List.mem_append_right _ (List.mem_append_right _ (List.mem_append_left _ hb)))))))))))))))))) : ∀ b ∈ L4171, b ∈ (p2462 :: (x2474 :: (D2534 :: (D2611 :: (D2826 :: (D2928 :: (a3064 :: (a3115 :: (a3175 :: (a3284 :: (p3778 :: (a4140 :: (L3315 ++ (L3117 ++ (L3204 ++ (L3318 ++ (L4171 ++ (L4174 ++ []))))))))))))))))))) : ∀ b ∈ L4171, b ∈ (p2462 :: (x2474 :: (D2534 :: (D2611 :: (D2826 :: (D2928 :: (a3064 :: (a3115 :: (a3175 :: (a3284 :: (p3778 :: (a4140 :: (L3315 ++ (L3117 ++ (L3204 ++ (L3318 ++ (L4171 ++ (L4174 ++ []))))))))))))))))))) b ((fun c hc => hs4291 c (List.mem_cons_of_mem _ hc)) b hb)) : ∀ b ∈ L4297, b ∈ (p2462 :: (x2474 :: (D2534 :: (D2611 :: (D2826 :: (D2928 :: (a3064 :: (a3115 :: (a3175 :: (a3284 :: (p3778 :: (a4140 :: (L3315 ++ (L3117 ++ (L3204 ++ (L3318 ++ (L4171 ++ (L4174 ++ []))))))))))))))))))) _ (hs4306 _ List.mem_cons_self)) h4316
                                    have w4318 : OwAll G4241 H4313 L4297 (vs4296) ((setL ((itD (cut_4169) (x4243))) (0) (setL ((itD ((itD (cut_4169) (x4243))) (0))) (0) ((-9))) : (List (List Int))).map (oL oI)) := upd_tree up4307 x4314 List.mem_cons_self (Ow.ints h4316)
                                    have hw := cW_bnd hw
                                    have h4320 := (x4314 _ _ h4298 (nb4300 _ (hs4306 _ List.mem_cons_self)).symm)
                                    have w4321 : OwAll G4241 H4313 L4171 (vs4170) ((setL (cut_4169) (x4243) (setL ((itD (cut_4169) (x4243))) (0) (setL ((itD ((itD (cut_4169) (x4243))) (0))) (0) ((-9)))) : (List (List (List Int)))).map (oL (oL oI))) := upd_tree up4292 x4314 (List.mem_cons_of_mem _ (hs4306 _ List.mem_cons_self)) (Ow.list h4320 w4318 (nb4300 : ∀ b ∈ L4297, b ≠ b4295))
                                    have hw := cW_bnd hw
                                    obtain ⟨g4323, hw⟩ := cW_grd hw
                                    have w4324 : OwAll G4241 H4313 L4174 (vs4173) ((setL (again_4172) (x4243) (setL ((itD (again_4172) (x4243))) (0) (setL ((itD ((itD (again_4172) (x4243))) (0))) (0) ((-9)))) : (List (List (List Int)))).map (oL (oL oI))) := (OwAll.mono (Same.refl _) (keeps_mut x4314 ((fun b hb z => (fun b hb => ((nl_symm (fun c hc => (ne4218 : ∀ c ∈ L4171, c ∉ L4174) c ((fun c hc => hs4291 c (List.mem_cons_of_mem _ hc)) c hc))) b hb)) b hb (z ▸ (hs4306 _ List.mem_cons_self))) : ∀ b ∈ L4174, b ≠ b4309)) w4283)
                                    obtain ⟨v4325, L4326, a4327, w4328, hs4329, up4330, gr4331⟩ := OwAll.partM (k := x4243) w4324 g4323
                                    have h4332 := (x4314 _ _ (x4276 _ _ h4201 ((((fun b hb => (ne4230 : ∀ b ∈ L4174, b ≠ a4140) b ((fun c hc => hs4254 c (List.mem_cons_of_mem _ hc)) b hb)) : ∀ b ∈ L4259, b ≠ a4140) _ (hs4268 _ List.mem_cons_self))).symm) ((((fun b hb => (ne4213 : ∀ b ∈ L4171, b ≠ a4140) b ((fun c hc => hs4291 c (List.mem_cons_of_mem _ hc)) b hb)) : ∀ b ∈ L4297, b ≠ a4140) _ (hs4306 _ List.mem_cons_self))).symm)
                                    obtain ⟨b4333, vs4334, L4335, rfl, rfl, h4336, w4337, nb4338⟩ := Ow.toList w4328
                                    obtain ⟨g4339, hw⟩ := cW_grd hw
                                    obtain ⟨v4340, L4341, a4342, w4343, hs4344, up4345, gr4346⟩ := OwAll.partM (k := (-1)) w4337 g4339
                                    obtain ⟨b4347, rfl, rfl, h4348⟩ := Ow.toInts w4343
                                    obtain ⟨g4349, hw⟩ := cW_grd hw
                                    refine ⟨_, rfl, _, rfl, _, _, _, _, rfl, rfl, (SqL.of h4332), a4327, _, rfl, _, _, _, _, rfl, rfl, (SqL.of h4336), a4342, (.inl ⟨rfl, _, SqL.of h4348⟩), _, rfl, _, _, _, rfl, rfl, h4348, (app_lenM g4349), ?_⟩
                                    generalize g4350 : upd H4313 b4347 _ = H4351
                                    obtain ⟨x4352, h4353⟩ := gen_mut g4350
                                    have h4354 : H4351 b4347 = some (.lst ((((itD ((itD (setL (again_4172) (x4243) (setL ((itD (again_4172) (x4243))) (0) (setL ((itD ((itD (again_4172) (x4243))) (0))) (0) ((-9))))) (x4243))) ((-1)))) ++ [x4243] : (List Int)).map V.int)) := snoc_map h4353
                                    have S4355 := S4317.mut1 x4352 (((fun b hb => (((fun b hb => (.tail _ (.tail _ (.tail _ (.tail _ (.tail _ (.tail _ (.tail _ (.tail _ (.tail _ (.tail _ (.tail _ (.tail _ (List.mem_append_right _ (List.mem_append_right _ (List.mem_append_right _ (List.mem_append_right _ (List.mem_append_right _ (List.mem_append_left _ hb))))))))))))))))))) : ∀ b ∈ L4174, b ∈ (p2462 :: (x2474 :: (D2534 :: (D2611 :: (D2826 :: (D2928 :: (a3064 :: (a3115 :: (a3175 :: (a3284 :: (p3778 :: (a4140 :: (L3315 ++ (L3117 ++ (L3204 ++ (L3318 ++ (L4171 ++ (L4174 ++ []))))))))))))))))))) : ∀ b ∈ L4174, b ∈ (p2462 :: (x2474 :: (D2534 :: (D2611 :: (D2826 :: (D2928 :: (a3064 :: (a3115 :: (a3175 :: (a3284 :: (p3778 :: (a4140 :: (L3315 ++ (L3117 ++ (L3204 ++ (L3318 ++ (L4171 ++ (L4174 ++ []))))))))))))))))))) b ((fun c hc => hs4329 c (List.mem_cons_of_mem _ hc)) b hb)) : ∀ b ∈ L4335, b ∈ (p2462 :: (x2474 :: (D2534 :: (D2611 :: (D2826 :: (D2928 :: (a3064 :: (a3115 :: (a3175 :: (a3284 :: (p3778 :: (a4140 :: (L3315 ++ (L3117 ++ (L3204 ++ (L3318 ++ (L4171 ++ (L4174 ++ []))))))))))))))))))) _ (hs4344 _ List.mem_cons_self)) h4354
                                    have w4356 : OwAll G4241 H4351 L4335 (vs4334) ((setL ((itD (setL (again_4172) (x4243) (setL ((itD (again_4172) (x4243))) (0) (setL ((itD ((itD (again_4172) (x4243))) (0))) (0) ((-9))))) (x4243))) ((-1)) (((itD ((itD (setL (again_4172) (x4243) (setL ((itD (again_4172) (x4243))) (0) (setL ((itD ((itD (again_4172) (x4243))) (0))) (0) ((-9))))) (x4243))) ((-1)))) ++ [x4243]) : (List (List Int))).map (oL oI)) := upd_tree up4345 x4352 List.mem_cons_self (Ow.ints h4354)
                                    have hw := cW_bnd hw
                                    have h4358 := (x4352 _ _ h4336 (nb4338 _ (hs4344 _ List.mem_cons_self)).symm)
                                    have w4359 : OwAll G4241 H4351 L4174 (vs4173) ((setL (setL (again_4172) (x4243) (setL ((itD (again_4172) (x4243))) (0) (setL ((itD ((itD (again_4172) (x4243))) (0))) (0) ((-9))))) (x4243) (setL ((itD (setL (again_4172) (x4243) (setL ((itD (again_4172) (x4243))) (0) (setL ((itD ((itD (again_4172) (x4243))) (0))) (0) ((-9))))) (x4243))) ((-1)) (((itD ((itD (setL (again_4172) (x4243) (setL ((itD (again_4172) (x4243))) (0) (setL ((itD ((itD (again_4172) (x4243))) (0))) (0) ((-9))))) (x4243))) ((-1)))) ++ [x4243])) : (List (List (List Int)))).map (oL (oL oI))) := upd_tree up4330 x4352 (List.mem_cons_of_mem _ (hs4344 _ List.mem_cons_self)) (Ow.list h4358 w4356 (nb4338 : ∀ b ∈ L4335, b ≠ b4333))
                                    have hw := cW_bnd hw
                                    obtain ⟨g4361, hw⟩ := cW_grd hw
                                    have w4362 : OwAll G4241 H4351 L4171 (vs4170) ((setL (cut_4169) (x4243) (setL ((itD (cut_4169) (x4243))) (0) (setL ((itD ((itD (cut_4169) (x4243))) (0))) (0) ((-9)))) : (List (List (List Int)))).map (oL (oL oI))) := (OwAll.mono (Same.refl _) (keeps_mut x4352 ((fun b hb z => (fun b hb => ((nl_symm (fun c hc => ((nl_symm ne4218) : ∀ c ∈ L4174, c ∉ L4171) c ((fun c hc => hs4329 c (List.mem_cons_of_mem _ hc)) c hc))) b hb)) b hb (z ▸ (hs4344 _ List.mem_cons_self))) : ∀ b ∈ L4171, b ≠ b4347)) w4321)
                                    obtain ⟨v4363, L4364, a4365, w4366, hs4367, up4368, gr4369⟩ := OwAll.partM (k := x4243) w4362 g4361
                                    have h4370 := (x4352 _ _ (x4314 _ _ h4294 ((((fun b hb => (ne4212 : ∀ b ∈ L4171, b ≠ p3778) b ((fun c hc => hs4291 c (List.mem_cons_of_mem _ hc)) b hb)) : ∀ b ∈ L4297, b ≠ p3778) _ (hs4306 _ List.mem_cons_self))).symm) ((((fun b hb => (ne4229 : ∀ b ∈ L4174, b ≠ p3778) b ((fun c hc => hs4329 c (List.mem_cons_of_mem _ hc)) b hb)) : ∀ b ∈ L4335, b ≠ p3778) _ (hs4344 _ List.mem_cons_self))).symm)
                                    obtain ⟨b4371, vs4372, L4373, rfl, rfl, h4374, w4375, nb4376⟩ := Ow.toList w4366
                                    obtain ⟨g4377, hw⟩ := cW_grd hw
                                    obtain ⟨v4378, L4379, a4380, w4381, hs4382, up4383, gr4384⟩ := OwAll.partM (k := (-1)) w4375 g4377
                                    obtain ⟨b4385, rfl, rfl, h4386⟩ := Ow.toInts w4381
                                    obtain ⟨g4387, hw⟩ := cW_grd hw
                                    refine ⟨_, rfl, _, rfl, _, _, _, _, rfl, rfl, (SqL.of h4370), a4365, _, rfl, _, _, _, _, rfl, rfl, (SqL.of h4374), a4380, (.inl ⟨rfl, _, SqL.of h4386⟩), _, rfl, _, _, _, rfl, rfl, h4386, (app_lenM g4387), ?_⟩
                                    generalize g4388 : upd H4351 b4385 _ = H4389
                                    obtain ⟨x4390, h4391⟩ := gen_mut g4388
                                    have h4392 : H4389 b4385 = some (.lst ((((itD ((itD (setL (cut_4169) (x4243) (setL ((itD (cut_4169) (x4243))) (0) (setL ((itD ((itD (cut_4169) (x4243))) (0))) (0) ((-9))))) (x4243))) ((-1)))) ++ [x4243] : (List Int)).map V.int)) := snoc_map h4391
                                    have S4393 := S4355.mut1 x4390 (((fun b hb => (((fun b hb => (.tail _ (.tail _ (.tail _ (.tail _ (.tail _ (.tail _ (.tail _ (.tail _ (.tail _ (.tail _ (.tail _ (.tail _ (List.mem_append_right _ (List.mem_append_right _ (List.mem_append_right _ (List.mem_append_right _ (List.mem_append_left _ hb)))))))))))))))))) : ∀ b ∈ L4171, b ∈ (p2462 :: (x2474 :: (D2534 :: (D2611 :: (D2826 :: (D2928 :: (a3064 :: (a3115 :: (a3175 :: (a3284 :: (p3778 :: (a4140 :: (L3315 ++ (L3117 ++ (L3204 ++ (L3318 ++ (L4171 ++ (L4174 ++ []))))))))))))))))))) : ∀ b ∈ L4171, b ∈ (p2462 :: (x2474 :: (D2534 :: (D2611 :: (D2826 :: (D2928 :: (a3064 :: (a3115 :: (a3175 :: (a3284 :: (p3778 :: (a4140 :: (L3315 ++ (L3117 ++ (L3204 ++ (L3318 ++ (L4171 ++ (L4174 ++ []))))))))))))))))))) b ((fun c hc => hs4367 c (List.mem_cons_of_mem _ hc)) b hb)) : ∀ b ∈ L4373, b ∈ (p2462 :: (x2474 :: (D2534 :: (D2611 :: (D2826 :: (D2928 :: (a3064 :: (a3115 :: (a3175 :: (a3284 :: (p3778 :: (a4140 :: (L3315 ++ (L3117 ++ (L3204 ++ (L3318 ++ (L4171 ++ (L4174 ++ []))))))))))))))))))) _ (hs4382 _ List.mem_cons_self)) h4392
                                    have w4394 : OwAll G4241 H4389 L4373 (vs4372) ((setL ((itD (setL (cut_4169) (x4243) (setL ((itD (cut_4169) (x4243))) (0) (setL ((itD ((itD (cut_4169) (x4243))) (0))) (0) ((-9))))) (x4243))) ((-1)) (((itD ((itD (setL (cut_4169) (x4243) (setL ((itD (cut_4169) (x4243))) (0) (setL ((itD ((itD (cut_4169) (x4243))) (0))) (0) ((-9))))) (x4243))) ((-1)))) ++ [x4243]) : (List (List Int))).map (oL oI)) := upd_tree up4383 x4390 List.mem_cons_self (Ow.ints h4392)
                                    have hw := cW_bnd hw
                                    have h4396 := (x4390 _ _ h4374 (nb4376 _ (hs4382 _ List.mem_cons_self)).symm)
                                    have w4397 : OwAll G4241 H4389 L4171 (vs4170) ((setL (setL (cut_4169) (x4243) (setL ((itD (cut_4169) (x4243))) (0) (setL ((itD ((itD (cut_4169) (x4243))) (0))) (0) ((-9))))) (x4243) (setL ((itD (setL (cut_4169) (x4243) (setL ((itD (cut_4169) (x4243))) (0) (setL ((itD ((itD (cut_4169) (x4243))) (0))) (0) ((-9))))) (x4243))) ((-1)) (((itD ((itD (setL (cut_4169) (x4243) (setL ((itD (cut_4169) (x4243))) (0) (setL ((itD ((itD (cut_4169) (x4243))) (0))) (0) ((-9))))) (x4243))) ((-1)))) ++ [x4243])) : (List (List (List Int)))).map (oL (oL oI))) := upd_tree up4368 x4390 (List.mem_cons_of_mem _ (hs4382 _ List.mem_cons_self)) (Ow.list h4396 w4394 (nb4376 : ∀ b ∈ L4373, b ≠ b4371))
                                    have hw := cW_bnd hw
                                    have hw := cW_ok hw
                                    have hw := hK4247 _ hw
                                    have h4399 := (x4390 _ _ (x4352 _ _ (x4314 _ _ (x4276 _ _ h4190 ((((fun b hb => (ne4219 : ∀ b ∈ L4174, b ≠ p2462) b ((fun c hc => hs4254 c (List.mem_cons_of_mem _ hc)) b hb)) : ∀ b ∈ L4259, b ≠ p2462) _ (hs4268 _ List.mem_cons_self))).symm) ((((fun b hb => (ne4202 : ∀ b ∈ L4171, b ≠ p2462) b ((fun c hc => hs4291 c (List.mem_cons_of_mem _ hc)) b hb)) : ∀ b ∈ L4297, b ≠ p2462) _ (hs4306 _ List.mem_cons_self))).symm) ((((fun b hb => (ne4219 : ∀ b ∈ L4174, b ≠ p2462) b ((fun c hc => hs4329 c (List.mem_cons_of_mem _ hc)) b hb)) : ∀ b ∈ L4335, b ≠ p2462) _ (hs4344 _ List.mem_cons_self))).symm) ((((fun b hb => (ne4202 : ∀ b ∈ L4171, b ≠ p2462) b ((fun c hc => hs4367 c (List.mem_cons_of_mem _ hc)) b hb)) : ∀ b ∈ L4373, b ≠ p2462) _ (hs4382 _ List.mem_cons_self))).symm)
                                    have h4400 := (x4390 _ _ (x4352 _ _ (x4314 _ _ (x4276 _ _ h4191 ((((fun b hb => (ne4220 : ∀ b ∈ L4174, b ≠ x2474) b ((fun c hc => hs4254 c (List.mem_cons_of_mem _ hc)) b hb)) : ∀ b ∈ L4259, b ≠ x2474) _ (hs4268 _ List.mem_cons_self))).symm) ((((fun b hb => (ne4203 : ∀ b ∈ L4171, b ≠ x2474) b ((fun c hc => hs4291 c (List.mem_cons_of_mem _ hc)) b hb)) : ∀ b ∈ L4297, b ≠ x2474) _ (hs4306 _ List.mem_cons_self))).symm) ((((fun b hb => (ne4220 : ∀ b ∈ L4174, b ≠ x2474) b ((fun c hc => hs4329 c (List.mem_cons_of_mem _ hc)) b hb)) : ∀ b ∈ L4335, b ≠ x2474) _ (hs4344 _ List.mem_cons_self))).symm) ((((fun b hb => (ne4203 : ∀ b ∈ L4171, b ≠ x2474) b ((fun c hc => hs4367 c (List.mem_cons_of_mem _ hc)) b hb)) : ∀ b ∈ L4373, b ≠ x2474) _ (hs4382 _ List.mem_cons_self))).symm)
                                    have h4401 := (x4390 _ _ (x4352 _ _ (x4314 _ _ (x4276 _ _ h4192 ((((fun b hb => (ne4221 : ∀ b ∈ L4174, b ≠ D2534) b ((fun c hc => hs4254 c (List.mem_cons_of_mem _ hc)) b hb)) : ∀ b ∈ L4259, b ≠ D2534) _ (hs4268 _ List.mem_cons_self))).symm) ((((fun b hb => (ne4204 : ∀ b ∈ L4171, b ≠ D2534) b ((fun c hc => hs4291 c (List.mem_cons_of_mem _ hc)) b hb)) : ∀ b ∈ L4297, b ≠ D2534) _ (hs4306 _ List.mem_cons_self))).symm) ((((fun b hb => (ne4221 : ∀ b ∈ L4174, b ≠ D2534) b ((fun c hc => hs4329 c (List.mem_cons_of_mem _ hc)) b hb)) : ∀ b ∈ L4335, b ≠ D2534) _ (hs4344 _ List.mem_cons_self))).symm) ((((fun b hb => (ne4204 : ∀ b ∈ L4171, b ≠ D2534) b ((fun c hc => hs4367 c (List.mem_cons_of_mem _ hc)) b hb)) : ∀ b ∈ L4373, b ≠ D2534) _ (hs4382 _ List.mem_cons_self))).symm)
                                    have h4402 := (x4390 _ _ (x4352 _ _ (x4314 _ _ (x4276 _ _ h4193 ((((fun b hb => (ne4222 : ∀ b ∈ L4174, b ≠ D2611) b ((fun c hc => hs4254 c (List.mem_cons_of_mem _ hc)) b hb)) : ∀ b ∈ L4259, b ≠ D2611) _ (hs4268 _ List.mem_cons_self))).symm) ((((fun b hb => (ne4205 : ∀ b ∈ L4171, b ≠ D2611) b ((fun c hc => hs4291 c (List.mem_cons_of_mem _ hc)) b hb)) : ∀ b ∈ L4297, b ≠ D2611) _ (hs4306 _ List.mem_cons_self))).symm) ((((fun b hb => (ne4222 : ∀ b ∈ L4174, b ≠ D2611) b ((fun c hc => hs4329 c (List.mem_cons_of_mem _ hc)) b hb)) : ∀ b ∈ L4335, b ≠ D2611) _ (hs4344 _ List.mem_cons_self))).symm) ((((fun b hb => (ne4205 : ∀ b ∈ L4171, b ≠ D2611) b ((fun c hc => hs4367 c (List.mem_cons_of_mem _ hc)) b hb)) : ∀ b ∈ L4373, b ≠ D2611) _ (hs4382 _ List.mem_cons_self))).symm)
                                    have h4403 := (x4390 _ _ (x4352 _ _ (x4314 _ _ (x4276 _ _ h4194 ((((fun b hb => (ne4223 : ∀ b ∈ L4174, b ≠ D2826) b ((fun c hc => hs4254 c (List.mem_cons_of_mem _ hc)) b hb)) : ∀ b ∈ L4259, b ≠ D2826) _ (hs4268 _ List.mem_cons_self))).symm) ((((fun b hb => (ne4206 : ∀ b ∈ L4171, b ≠ D2826) b ((fun c hc => hs4291 c (List.mem_cons_of_mem _ hc)) b hb)) : ∀ b ∈ L4297, b ≠ D2826) _ (hs4306 _ List.mem_cons_self))).symm) ((((fun b hb => (ne4223 : ∀ b ∈ L4174, b ≠ D2826) b ((fun c hc => hs4329 c (List.mem_cons_of_mem _ hc)) b hb)) : ∀ b ∈ L4335, b ≠ D2826) _ (hs4344 _ List.mem_cons_self))).symm) ((((fun b hb => (ne4206 : ∀ b ∈ L4171, b ≠ D2826) b ((fun c hc => hs4367 c (List.mem_cons_of_mem _ hc)) b hb)) : ∀ b ∈ L4373, b ≠ D2826) _ (hs4382 _ List.mem_cons_self))).symm)
                                    have h4404 := (x4390 _ _ (x4352 _ _ (x4314 _ _ (x4276 _ _ h4195 ((((fun b hb => (ne4224 : ∀ b ∈ L4174, b ≠ D2928) b ((fun c hc => hs4254 c (List.mem_cons_of_mem _ hc)) b hb)) : ∀ b ∈ L4259, b ≠ D2928) _ (hs4268 _ List.mem_cons_self))).symm) ((((fun b hb => (ne4207 : ∀ b ∈ L4171, b ≠ D2928) b ((fun c hc => hs4291 c (List.mem_cons_of_mem _ hc)) b hb)) : ∀ b ∈ L4297, b ≠ D2928) _ (hs4306 _ List.mem_cons_self))).symm) ((((fun b hb => (ne4224 : ∀ b ∈ L4174, b ≠ D2928) b ((fun c hc => hs4329 c (List.mem_cons_of_mem _ hc)) b hb)) : ∀ b ∈ L4335, b ≠ D2928) _ (hs4344 _ List.mem_cons_self))).symm) ((((fun b hb => (ne4207 : ∀ b ∈ L4171, b ≠ D2928) b ((fun c hc => hs4367 c (List.mem_cons_of_mem _ hc)) b hb)) : ∀ b ∈ L4373, b ≠ D2928) _ (hs4382 _ List.mem_cons_self))).symm)
                                    have h4405 := (x4390 _ _ (x4352 _ _ (x4314 _ _ (x4276 _ _ h4196 ((((fun b hb => (ne4225 : ∀ b ∈ L4174, b ≠ a3064) b ((fun c hc => hs4254 c (List.mem_cons_of_mem _ hc)) b hb)) : ∀ b ∈ L4259, b ≠ a3064) _ (hs4268 _ List.mem_cons_self))).symm) ((((fun b hb => (ne4208 : ∀ b ∈ L4171, b ≠ a3064) b ((fun c hc => hs4291 c (List.mem_cons_of_mem _ hc)) b hb)) : ∀ b ∈ L4297, b ≠ a3064) _ (hs4306 _ List.mem_cons_self))).symm) ((((fun b hb => (ne4225 : ∀ b ∈ L4174, b ≠ a3064) b ((fun c hc => hs4329 c (List.mem_cons_of_mem _ hc)) b hb)) : ∀ b ∈ L4335, b ≠ a3064) _ (hs4344 _ List.mem_cons_self))).symm) ((((fun b hb => (ne4208 : ∀ b ∈ L4171, b ≠ a3064) b ((fun c hc => hs4367 c (List.mem_cons_of_mem _ hc)) b hb)) : ∀ b ∈ L4373, b ≠ a3064) _ (hs4382 _ List.mem_cons_self))).symm)
                                    have h4406 := (x4390 _ _ (x4352 _ _ (x4314 _ _ (x4276 _ _ h4197 ((((fun b hb => (ne4226 : ∀ b ∈ L4174, b ≠ a3115) b ((fun c hc => hs4254 c (List.mem_cons_of_mem _ hc)) b hb)) : ∀ b ∈ L4259, b ≠ a3115) _ (hs4268 _ List.mem_cons_self))).symm) ((((fun b hb => (ne4209 : ∀ b ∈ L4171, b ≠ a3115) b ((fun c hc => hs4291 c (List.mem_cons_of_mem _ hc)) b hb)) : ∀ b ∈ L4297, b ≠ a3115) _ (hs4306 _ List.mem_cons_self))).symm) ((((fun b hb => (ne4226 : ∀ b ∈ L4174, b ≠ a3115) b ((fun c hc => hs4329 c (List.mem_cons_of_mem _ hc)) b hb)) : ∀ b ∈ L4335, b ≠ a3115) _ (hs4344 _ List.mem_cons_self))).symm) ((((fun b hb => (ne4209 : ∀ b ∈ L4171, b ≠ a3115) b ((fun c hc => hs4367 c (List.mem_cons_of_mem _ hc)) b hb)) : ∀ b ∈ L4373, b ≠ a3115) _ (hs4382 _ List.mem_cons_self))).symm)
                                    have h4407 := (x4390 _ _ (x4352 _ _ (x4314 _ _ (x4276 _ _ h4198 ((((fun b hb => (ne4227 : ∀ b ∈ L4174, b ≠ a3175) b ((fun c hc => hs4254 c (List.mem_cons_of_mem _ hc)) b hb)) : ∀ b ∈ L4259, b ≠ a3175) _ (hs4268 _ List.mem_cons_self))).symm) ((((fun b hb => (ne4210 : ∀ b ∈ L4171, b ≠ a3175) b ((fun c hc => hs4291 c (List.mem_cons_of_mem _ hc)) b hb)) : ∀ b ∈ L4297, b ≠ a3175) _ (hs4306 _ List.mem_cons_self))).symm) ((((fun b hb => (ne4227 : ∀ b ∈ L4174, b ≠ a3175) b ((fun c hc => hs4329 c (List.mem_cons_of_mem _ hc)) b hb)) : ∀ b ∈ L4335, b ≠ a3175) _ (hs4344 _ List.mem_cons_self))).symm) ((((fun b hb => (ne4210 : ∀ b ∈ L4171, b ≠ a3175) b ((fun c hc => hs4367 c (List.mem_cons_of_mem _ hc)) b hb)) : ∀ b ∈ L4373, b ≠ a3175) _ (hs4382 _ List.mem_cons_self))).symm)
                                    have h4408 := (x4390 _ _ (x4352 _ _ (x4314 _ _ (x4276 _ _ h4199 ((((fun b hb => (ne4228 : ∀ b ∈ L4174, b ≠ a3284) b ((fun c hc => hs4254 c (List.mem_cons_of_mem _ hc)) b hb)) : ∀ b ∈ L4259, b ≠ a3284) _ (hs4268 _ List.mem_cons_self))).symm) ((((fun b hb => (ne4211 : ∀ b ∈ L4171, b ≠ a3284) b ((fun c hc => hs4291 c (List.mem_cons_of_mem _ hc)) b hb)) : ∀ b ∈ L4297, b ≠ a3284) _ (hs4306 _ List.mem_cons_self))).symm) ((((fun b hb => (ne4228 : ∀ b ∈ L4174, b ≠ a3284) b ((fun c hc => hs4329 c (List.mem_cons_of_mem _ hc)) b hb)) : ∀ b ∈ L4335, b ≠ a3284) _ (hs4344 _ List.mem_cons_self))).symm) ((((fun b hb => (ne4211 : ∀ b ∈ L4171, b ≠ a3284) b ((fun c hc => hs4367 c (List.mem_cons_of_mem _ hc)) b hb)) : ∀ b ∈ L4373, b ≠ a3284) _ (hs4382 _ List.mem_cons_self))).symm)
                                    have h4409 := (x4390 _ _ h4370 ((((fun b hb => (ne4212 : ∀ b ∈ L4171, b ≠ p3778) b ((fun c hc => hs4367 c (List.mem_cons_of_mem _ hc)) b hb)) : ∀ b ∈ L4373, b ≠ p3778) _ (hs4382 _ List.mem_cons_self))).symm)
                                    have h4410 := (x4390 _ _ (x4352 _ _ h4332 ((((fun b hb => (ne4230 : ∀ b ∈ L4174, b ≠ a4140) b ((fun c hc => hs4329 c (List.mem_cons_of_mem _ hc)) b hb)) : ∀ b ∈ L4335, b ≠ a4140) _ (hs4344 _ List.mem_cons_self))).symm) ((((fun b hb => (ne4213 : ∀ b ∈ L4171, b ≠ a4140) b ((fun c hc => hs4367 c (List.mem_cons_of_mem _ hc)) b hb)) : ∀ b ∈ L4373, b ≠ a4140) _ (hs4382 _ List.mem_cons_self))).symm)
                                    have w4411 : OwAll G4241 H4389 L3315 (vs3314) ((actual_3313 : (List (List (List Int)))).map (oL (oL oI))) := (OwAll.mono (Same.refl _) (keeps_mut x4390 ((fun b hb z => (fun b hb => ((nl_symm (fun c hc => (ne4214 : ∀ c ∈ L4171, c ∉ L3315) c ((fun c hc => hs4367 c (List.mem_cons_of_mem _ hc)) c hc))) b hb)) b hb (z ▸ (hs4382 _ List.mem_cons_self))) : ∀ b ∈ L3315, b ≠ b4385)) (OwAll.mono (Same.refl _) (keeps_mut x4352 ((fun b hb z => (fun b hb => ((nl_symm (fun c hc => (ne4231 : ∀ c ∈ L4174, c ∉ L3315) c ((fun c hc => hs4329 c (List.mem_cons_of_mem _ hc)) c hc))) b hb)) b hb (z ▸ (hs4344 _ List.mem_cons_self))) : ∀ b ∈ L3315, b ≠ b4347)) (OwAll.mono (Same.refl _) (keeps_mut x4314 ((fun b hb z => (fun b hb => ((nl_symm (fun c hc => (ne4214 : ∀ c ∈ L4171, c ∉ L3315) c ((fun c hc => hs4291 c (List.mem_cons_of_mem _ hc)) c hc))) b hb)) b hb (z ▸ (hs4306 _ List.mem_cons_self))) : ∀ b ∈ L3315, b ≠ b4309)) (OwAll.mono (Same.refl _) (keeps_mut x4276 ((fun b hb z => (fun b hb => ((nl_symm (fun c hc => (ne4231 : ∀ c ∈ L4174, c ∉ L3315) c ((fun c hc => hs4254 c (List.mem_cons_of_mem _ hc)) c hc))) b hb)) b hb (z ▸ (hs4268 _ List.mem_cons_self))) : ∀ b ∈ L3315, b ≠ b4271)) w4235))))
                                    have w4412 : OwAll G4241 H4389 L3117 (vs3116) ((setL (v3112) (0) (setL ((itD (v3112) (0))) (0) (setL ((itD ((itD (v3112) (0))) (0))) (0) ((top_2496 + 1)))) : (List (List (List Int)))).map (oL (oL oI))) := (OwAll.mono (Same.refl _) (keeps_mut x4390 ((fun b hb z => (fun b hb => ((nl_symm (fun c hc => (ne4215 : ∀ c ∈ L4171, c ∉ L3117) c ((fun c hc => hs4367 c (List.mem_cons_of_mem _ hc)) c hc))) b hb)) b hb (z ▸ (hs4382 _ List.mem_cons_self))) : ∀ b ∈ L3117, b ≠ b4385)) (OwAll.mono (Same.refl _) (keeps_mut x4352 ((fun b hb z => (fun b hb => ((nl_symm (fun c hc => (ne4232 : ∀ c ∈ L4174, c ∉ L3117) c ((fun c hc => hs4329 c (List.mem_cons_of_mem _ hc)) c hc))) b hb)) b hb (z ▸ (hs4344 _ List.mem_cons_self))) : ∀ b ∈ L3117, b ≠ b4347)) (OwAll.mono (Same.refl _) (keeps_mut x4314 ((fun b hb z => (fun b hb => ((nl_symm (fun c hc => (ne4215 : ∀ c ∈ L4171, c ∉ L3117) c ((fun c hc => hs4291 c (List.mem_cons_of_mem _ hc)) c hc))) b hb)) b hb (z ▸ (hs4306 _ List.mem_cons_self))) : ∀ b ∈ L3117, b ≠ b4309)) (OwAll.mono (Same.refl _) (keeps_mut x4276 ((fun b hb z => (fun b hb => ((nl_symm (fun c hc => (ne4232 : ∀ c ∈ L4174, c ∉ L3117) c ((fun c hc => hs4254 c (List.mem_cons_of_mem _ hc)) c hc))) b hb)) b hb (z ▸ (hs4268 _ List.mem_cons_self))) : ∀ b ∈ L3117, b ≠ b4271)) w4236))))
                                    have w4413 : OwAll G4241 H4389 L3204 (vs3203) ((spoilt_3202 : (List (List (List Int)))).map (oL (oL oI))) := (OwAll.mono (Same.refl _) (keeps_mut x4390 ((fun b hb z => (fun b hb => ((nl_symm (fun c hc => (ne4216 : ∀ c ∈ L4171, c ∉ L3204) c ((fun c hc => hs4367 c (List.mem_cons_of_mem _ hc)) c hc))) b hb)) b hb (z ▸ (hs4382 _ List.mem_cons_self))) : ∀ b ∈ L3204, b ≠ b4385)) (OwAll.mono (Same.refl _) (keeps_mut x4352 ((fun b hb z => (fun b hb => ((nl_symm (fun c hc => (ne4233 : ∀ c ∈ L4174, c ∉ L3204) c ((fun c hc => hs4329 c (List.mem_cons_of_mem _ hc)) c hc))) b hb)) b hb (z ▸ (hs4344 _ List.mem_cons_self))) : ∀ b ∈ L3204, b ≠ b4347)) (OwAll.mono (Same.refl _) (keeps_mut x4314 ((fun b hb z => (fun b hb => ((nl_symm (fun c hc => (ne4216 : ∀ c ∈ L4171, c ∉ L3204) c ((fun c hc => hs4291 c (List.mem_cons_of_mem _ hc)) c hc))) b hb)) b hb (z ▸ (hs4306 _ List.mem_cons_self))) : ∀ b ∈ L3204, b ≠ b4309)) (OwAll.mono (Same.refl _) (keeps_mut x4276 ((fun b hb z => (fun b hb => ((nl_symm (fun c hc => (ne4233 : ∀ c ∈ L4174, c ∉ L3204) c ((fun c hc => hs4254 c (List.mem_cons_of_mem _ hc)) c hc))) b hb)) b hb (z ▸ (hs4268 _ List.mem_cons_self))) : ∀ b ∈ L3204, b ≠ b4271)) w4237))))
                                    have w4414 : OwAll G4241 H4389 L3318 (vs3317) ((longer_3316 : (List (List (List Int)))).map (oL (oL oI))) := (OwAll.mono (Same.refl _) (keeps_mut x4390 ((fun b hb z => (fun b hb => ((nl_symm (fun c hc => (ne4217 : ∀ c ∈ L4171, c ∉ L3318) c ((fun c hc => hs4367 c (List.mem_cons_of_mem _ hc)) c hc))) b hb)) b hb (z ▸ (hs4382 _ List.mem_cons_self))) : ∀ b ∈ L3318, b ≠ b4385)) (OwAll.mono (Same.refl _) (keeps_mut x4352 ((fun b hb z => (fun b hb => ((nl_symm (fun c hc => (ne4234 : ∀ c ∈ L4174, c ∉ L3318) c ((fun c hc => hs4329 c (List.mem_cons_of_mem _ hc)) c hc))) b hb)) b hb (z ▸ (hs4344 _ List.mem_cons_self))) : ∀ b ∈ L3318, b ≠ b4347)) (OwAll.mono (Same.refl _) (keeps_mut x4314 ((fun b hb z => (fun b hb => ((nl_symm (fun c hc => (ne4217 : ∀ c ∈ L4171, c ∉ L3318) c ((fun c hc => hs4291 c (List.mem_cons_of_mem _ hc)) c hc))) b hb)) b hb (z ▸ (hs4306 _ List.mem_cons_self))) : ∀ b ∈ L3318, b ≠ b4309)) (OwAll.mono (Same.refl _) (keeps_mut x4276 ((fun b hb z => (fun b hb => ((nl_symm (fun c hc => (ne4234 : ∀ c ∈ L4174, c ∉ L3318) c ((fun c hc => hs4254 c (List.mem_cons_of_mem _ hc)) c hc))) b hb)) b hb (z ▸ (hs4268 _ List.mem_cons_self))) : ∀ b ∈ L3318, b ≠ b4271)) w4238))))
                                    have w4415 : OwAll G4241 H4389 L4174 (vs4173) ((setL (setL (again_4172) (x4243) (setL ((itD (again_4172) (x4243))) (0) (setL ((itD ((itD (again_4172) (x4243))) (0))) (0) ((-9))))) (x4243) (setL ((itD (setL (again_4172) (x4243) (setL ((itD (again_4172) (x4243))) (0) (setL ((itD ((itD (again_4172) (x4243))) (0))) (0) ((-9))))) (x4243))) ((-1)) (((itD ((itD (setL (again_4172) (x4243) (setL ((itD (again_4172) (x4243))) (0) (setL ((itD ((itD (again_4172) (x4243))) (0))) (0) ((-9))))) (x4243))) ((-1)))) ++ [x4243])) : (List (List (List Int)))).map (oL (oL oI))) := (OwAll.mono (Same.refl _) (keeps_mut x4390 ((fun b hb z => (fun b hb => ((nl_symm (fun c hc => (ne4218 : ∀ c ∈ L4171, c ∉ L4174) c ((fun c hc => hs4367 c (List.mem_cons_of_mem _ hc)) c hc))) b hb)) b hb (z ▸ (hs4382 _ List.mem_cons_self))) : ∀ b ∈ L4174, b ≠ b4385)) w4359)
                                    exact ⟨_, (setL (setL (cut_4169) (x4243) (setL ((itD (cut_4169) (x4243))) (0) (setL ((itD ((itD (cut_4169) (x4243))) (0))) (0) ((-9))))) (x4243) (setL ((itD (setL (cut_4169) (x4243) (setL ((itD (cut_4169) (x4243))) (0) (setL ((itD ((itD (cut_4169) (x4243))) (0))) (0) ((-9))))) (x4243))) ((-1)) (((itD ((itD (setL (cut_4169) (x4243) (setL ((itD (cut_4169) (x4243))) (0) (setL ((itD ((itD (cut_4169) (x4243))) (0))) (0) ((-9))))) (x4243))) ((-1)))) ++ [x4243]))), (vs4170), L4171, (setL (setL (again_4172) (x4243) (setL ((itD (again_4172) (x4243))) (0) (setL ((itD ((itD (again_4172) (x4243))) (0))) (0) ((-9))))) (x4243) (setL ((itD (setL (again_4172) (x4243) (setL ((itD (again_4172) (x4243))) (0) (setL ((itD ((itD (again_4172) (x4243))) (0))) (0) ((-9))))) (x4243))) ((-1)) (((itD ((itD (setL (again_4172) (x4243) (setL ((itD (again_4172) (x4243))) (0) (setL ((itD ((itD (again_4172) (x4243))) (0))) (0) ((-9))))) (x4243))) ((-1)))) ++ [x4243]))), (vs4173), L4174, _, rfl, eG4242, (S4393.sub (all_cons (.head _) (all_cons (.tail _ (.head _)) (all_cons (.tail _ (.tail _ (.head _))) (all_cons (.tail _ (.tail _ (.tail _ (.head _)))) (all_cons (.tail _ (.tail _ (.tail _ (.tail _ (.head _))))) (all_cons (.tail _ (.tail _ (.tail _ (.tail _ (.tail _ (.head _)))))) (all_cons (.tail _ (.tail _ (.tail _ (.tail _ (.tail _ (.tail _ (.head _))))))) (all_cons (.tail _ (.tail _ (.tail _ (.tail _ (.tail _ (.tail _ (.tail _ (.head _)))))))) (all_cons (.tail _ (.tail _ (.tail _ (.tail _ (.tail _ (.tail _ (.tail _ (.tail _ (.head _))))))))) (all_cons (.tail _ (.tail _ (.tail _ (.tail _ (.tail _ (.tail _ (.tail _ (.tail _ (.tail _ (.head _)))))))))) (all_cons (.tail _ (.tail _ (.tail _ (.tail _ (.tail _ (.tail _ (.tail _ (.tail _ (.tail _ (.tail _ (.head _))))))))))) (all_cons (.tail _ (.tail _ (.tail _ (.tail _ (.tail _ (.tail _ (.tail _ (.tail _ (.tail _ (.tail _ (.tail _ (.head _)))))))))))) (all_app ((fun b hb => (.tail _ (.tail _ (.tail _ (.tail _ (.tail _ (.tail _ (.tail _ (.tail _ (.tail _ (.tail _ (.tail _ (.tail _ (List.mem_append_left _ hb)))))))))))))) : ∀ b ∈ L3315, b ∈ (p2462 :: (x2474 :: (D2534 :: (D2611 :: (D2826 :: (D2928 :: (a3064 :: (a3115 :: (a3175 :: (a3284 :: (p3778 :: (a4140 :: (L3315 ++ (L3117 ++ (L3204 ++ (L3318 ++ (L4171 ++ (L4174 ++ []))))))))))))))))))) (all_app ((fun b hb => (.tail _ (.tail _ (.tail _ (.tail _ (.tail _ (.tail _ (.tail _ (.tail _ (.tail _ (.tail _ (.tail _ (.tail _ (List.mem_append_right _ (List.mem_append_left _ hb))))))))))))))) : ∀ b ∈ L3117, b ∈ (p2462 :: (x2474 :: (D2534 :: (D2611 :: (D2826 :: (D2928 :: (a3064 :: (a3115 :: (a3175 :: (a3284 :: (p3778 :: (a4140 :: (L3315 ++ (L3117 ++ (L3204 ++ (L3318 ++ (L4171 ++ (L4174 ++ []))))))))))))))))))) (all_app ((fun b hb => (.tail _ (.tail _ (.tail _ (.tail _ (.tail _ (.tail _ (.tail _ (.tail _ (.tail _ (.tail _ (.tail _ (.tail _ (List.mem_append_right _ (List.mem_append_right _ (List.mem_append_left _ hb)))))))))))))))) : ∀ b ∈ L3204, b ∈ (p2462 :: (x2474 :: (D2534 :: (D2611 :: (D2826 :: (D2928 :: (a3064 :: (a3115 :: (a3175 :: (a3284 :: (p3778 :: (a4140 :: (L3315 ++ (L3117 ++ (L3204 ++ (L3318 ++ (L4171 ++ (L4174 ++ []))))))))))))))))))) (all_app ((fun b hb => (.tail _ (.tail _ (.tail _ (.tail _ (.tail _ (.tail _ (.tail _ (.tail _ (.tail _ (.tail _ (.tail _ (.tail _ (List.mem_append_right _ (List.mem_append_right _ (List.mem_append_right _ (List.mem_append_left _ hb))))))))))))))))) : ∀ b ∈ L3318, b ∈ (p2462 :: (x2474 :: (D2534 :: (D2611 :: (D2826 :: (D2928 :: (a3064 :: (a3115 :: (a3175 :: (a3284 :: (p3778 :: (a4140 :: (L3315 ++ (L3117 ++ (L3204 ++ (L3318 ++ (L4171 ++ (L4174 ++ []))))))))))))))))))) (all_app ((fun b hb => (.tail _ (.tail _ (.tail _ (.tail _ (.tail _ (.tail _ (.tail _ (.tail _ (.tail _ (.tail _ (.tail _ (.tail _ (List.mem_append_right _ (List.mem_append_right _ (List.mem_append_right _ (List.mem_append_right _ (List.mem_append_left _ hb)))))))))))))))))) : ∀ b ∈ L4171, b ∈ (p2462 :: (x2474 :: (D2534 :: (D2611 :: (D2826 :: (D2928 :: (a3064 :: (a3115 :: (a3175 :: (a3284 :: (p3778 :: (a4140 :: (L3315 ++ (L3117 ++ (L3204 ++ (L3318 ++ (L4171 ++ (L4174 ++ []))))))))))))))))))) (all_app ((fun b hb => (.tail _ (.tail _ (.tail _ (.tail _ (.tail _ (.tail _ (.tail _ (.tail _ (.tail _ (.tail _ (.tail _ (.tail _ (List.mem_append_right _ (List.mem_append_right _ (List.mem_append_right _ (List.mem_append_right _ (List.mem_append_right _ (List.mem_append_left _ hb))))))))))))))))))) : ∀ b ∈ L4174, b ∈ (p2462 :: (x2474 :: (D2534 :: (D2611 :: (D2826 :: (D2928 :: (a3064 :: (a3115 :: (a3175 :: (a3284 :: (p3778 :: (a4140 :: (L3315 ++ (L3117 ++ (L3204 ++ (L3318 ++ (L4171 ++ (L4174 ++ []))))))))))))))))))) all_nil))))))))))))))))))), h4399, h4400, h4401, h4402, h4403, h4404, h4405, h4406, h4407, h4408, h4409, h4410, ne4202, ne4203, ne4204, ne4205, ne4206, ne4207, ne4208, ne4209, ne4210, ne4211, ne4212, ne4213, ne4214, ne4215, ne4216, ne4217, (fun b hb => (ne4218 b hb)), ne4219, ne4220, ne4221, ne4222, ne4223, ne4224, ne4225, ne4226, ne4227, ne4228, ne4229, ne4230, ne4231, ne4232, ne4233, ne4234, w4411, w4412, w4413, w4414, w4397, w4415, hw⟩
                                  · intro σ H4416 hw
                                    obtain ⟨u4168, cut_4169, vs4170, L4171, again_4172, vs4173, L4174, G4469, rfl, eG4470, S4417, h4418, h4419, h4420, h4421, h4422, h4423, h4424, h4425, h4426, h4427, h4428, h4429, ne4430, ne4431, ne4432, ne4433, ne4434, ne4435, ne4436, ne4437, ne4438, ne4439, ne4440, ne4441, ne4442, ne4443, ne4444, ne4445, ne4446, ne4447, ne4448, ne4449, ne4450, ne4451, ne4452, ne4453, ne4454, ne4455, ne4456, ne4457, ne4458, ne4459, ne4460, ne4461, ne4462, w4463, w4464, w4465, w4466, w4467, w4468, hw⟩ := hw
                                    have hw := hK4167 _ (cW_forS0 (rng_len _ _).symm hw)
                                    have hw : cW (F_law_r16 (v2459) (v2485) (acc2910) (v3746) (cut_4169) (again_4172)) _ EE := hw
                                    unfold F_law_r16 at hw
                                    refine ⟨_, rfl, _, rfl, _, _, (rp_mk_list h4429 (OwAll.rpA w4468 (encO_L (encO_L encO_I)) S4417.sG)), (rp_mk_list h4428 (OwAll.rpA w4467 (encO_L (encO_L encO_I)) S4417.sG)), _, rfl, ?_⟩
                                    refine iteN (fun c4473 => ?_) (fun c4473 => ?_)
                                    · have hw := cW_neg c4473 hw
                                      refine iteT ?_
                                      have hw := cW_ok hw
                                      exact eq_bl (k _) (hK0 _ hw).symm
                                    · have hw := cW_pos c4473 hw
                                      refine ⟨_, rfl, _, rfl, _, _, (rp_mk_list h4422 (RpAll.mono S4417.sG (RpAll.mono eG4470 (RpAll.mono eG4147 (RpAll.mono eG4136 (RpAll.mono eG3766 (RpAll.mono eG3756 (RpAll.mono eG3734 (RpAll.mono eG3718 (RpAll.mono eG3291 (RpAll.mono eG3280 (RpAll.mono eG3182 (RpAll.mono eG3122 (RpAll.mono eG3111 (RpAll.mono eG3071 (RpAll.mono eG3055 (RpAll.mono eG3045 (RpAll.mono eG3021 d2912)))))))))))))))))), (rp_mk_list (S4417.sG _ _ (eG4470 _ _ (eG4147 _ _ (eG4136 _ _ hg3769)))) (RpAll.mono S4417.sG (RpAll.mono eG4470 (RpAll.mono eG4147 (RpAll.mono eG4136 d3770))))), _, rfl, ?_⟩
                                      refine iteN (fun c4474 => ?_) (fun c4474 => ?_)
                                      · have hw := cW_neg c4474 hw
                                        have hw := cW_ok hw
                                        exact eq_bl (k _) (hK0 _ hw).symm
                                      · have hw := cW_pos c4474 hw
                                        obtain ⟨g4475, hw⟩ := cW_grd hw
                                        obtain ⟨g4476, hw⟩ := cW_grd hw
                                        obtain ⟨g4477, hw⟩ := cW_grd hw
                                        obtain ⟨g4478, hw⟩ := cW_grd hw
                                        refine ⟨_, rfl, _, rfl, _, rfl, _, _, _, _, rfl, rfl, (SqL.of h4418), (atI_map g4475), _, rfl, _, _, _, _, rfl, rfl, (SqL.of h4418), (atI_map g4476), _, rfl, _, _, _, _, rfl, rfl, (SqL.of h4418), (atI_map g4477), _, rfl, _, _, _, _, rfl, rfl, (SqL.of h4418), (atI_map g4478), rfl, rfl, G4469, _, _, _, _, _, _, rfl, S4417.sG, (Rp.hide_nil (rp_mk_list h4422 (RpAll.mono S4417.sG (RpAll.mono eG4470 (RpAll.mono eG4147 (RpAll.mono eG4136 (RpAll.mono eG3766 (RpAll.mono eG3756 (RpAll.mono eG3734 (RpAll.mono eG3718 (RpAll.mono eG3291 (RpAll.mono eG3280 (RpAll.mono eG3182 (RpAll.mono eG3122 (RpAll.mono eG3111 (RpAll.mono eG3071 (RpAll.mono eG3055 (RpAll.mono eG3045 (RpAll.mono eG3021 d2912))))))))))))))))))), cW_call hw (fun v4479 hw v4482 H4480 G4483 e4481 eG4484 sG4485 hn4486 r4487 => ?_) (fun e he => (hE e he).elim)⟩
                                        have S4488 := S4417.step e4481 eG4484 sG4485 hn4486
                                        obtain ⟨a4489, vs4490, rfl, h4491, d4492⟩ := rp_list r4487
                                        have h4493 := (e4481 _ _ h4419)
                                        refine ⟨rfl, rfl, G4483, _, _, v2485, _, _, rfl, S4488.sG, (hide_nil h4493), (Rp.hide_nil (rp_mk_list (S4488.sG _ _ h4491) (RpAll.mono S4488.sG d4492))), cW_call hw (fun v4494 hw H4495 e4496 => ?_) (fun e he => (hE e he).elim)⟩
                                        have S4497 := S4488.same e4496
                                        have hw := cW_ok hw
                                        exact eq_bl (k _) (hK0 _ hw).symm
end
def spL (K : PySem.W.Frag) : Sp := fun vs H Q _ => ∃ (a_script : Addr) (script : List Int), vs = [.ref a_script] ∧ SqL K H a_script (script.map V.int) ∧ script.length ≤ 63 ∧ ∀ H', Q (.bl true) H'
def adK (K : PySem.W.Frag) : Ads := ⟨He.ga K "Format", He.ga K "CodecError", He.ga K "BadFormat", He.ga K "BadFrame", He.ga K "OutOfRange", 0⟩
abbrev dk0 : He5.DefA := ⟨fun K => He.ga K "_law_draws", "_law_draws", "_law_draws", defArgs s__law_draws, defBody s__law_draws, defScope s__law_draws, [], []⟩
abbrev dk1 : He5.DefA := ⟨fun K => He.ma K (He.ga K "Format") "__init__", "__init__", "Format.__init__", defArgs s_Format___init__, defBody s_Format___init__, defScope s_Format___init__, [], [("depth", .int 8), ("chroma", .int 0)]⟩
abbrev dk2 : He5.DefA := ⟨fun K => He.ga K "_law_copy", "_law_copy", "_law_copy", defArgs s__law_copy, defBody s__law_copy, defScope s__law_copy, [], []⟩
abbrev dk3 : He5.DefA := ⟨fun K => He.ga K "_check_shape", "_check_shape", "_check_shape", defArgs s__check_shape, defBody s__check_shape, defScope s__check_shape, [], []⟩
abbrev dk4 : He5.DefA := ⟨fun K => prA "Format" "planes" K, "planes", "Format.planes", defArgs s_Format_planes, defBody s_Format_planes, defScope s_Format_planes, [], []⟩
abbrev dk5 : He5.DefA := ⟨fun K => He.ma K (He.ga K "Format") "_plane_size", "_plane_size", "Format._plane_size", defArgs s_Format__plane_size, defBody s_Format__plane_size, defScope s_Format__plane_size, [], []⟩
abbrev dk6 : He5.DefA := ⟨fun K => He.ma K (He.ga K "Format") "size", "size", "Format.size", defArgs s_Format_size, defBody s_Format_size, defScope s_Format_size, [], []⟩
abbrev dk7 : He5.DefA := ⟨fun K => He.ga K "_sizes", "_sizes", "_sizes", defArgs s__sizes, defBody s__sizes, defScope s__sizes, [], []⟩
abbrev dk8 : He5.DefA := ⟨fun K => prA "Format" "top" K, "top", "Format.top", defArgs s_Format_top, defBody s_Format_top, defScope s_Format_top, [], []⟩
abbrev dk9 : He5.DefA := ⟨fun K => He.ga K "check_frame", "check_frame", "check_frame", defArgs s_check_frame, defBody s_check_frame, defScope s_check_frame, [], []⟩
abbrev dk10 : He5.DefA := ⟨fun K => He.ga K "_pad_plane", "_pad_plane", "_pad_plane", defArgs s__pad_plane, defBody s__pad_plane, defScope s__pad_plane, [], []⟩
abbrev dk11 : He5.DefA := ⟨fun K => He.ma K (He.ga K "Format") "blocks", "blocks", "Format.blocks", defArgs s_Format_blocks, defBody s_Format_blocks, defScope s_Format_blocks, [], []⟩
abbrev dk12 : He5.DefA := ⟨fun K => He.ma K (He.ga K "Format") "coded_size", "coded_size", "Format.coded_size", defArgs s_Format_coded_size, defBody s_Format_coded_size, defScope s_Format_coded_size, [], []⟩
abbrev dk13 : He5.DefA := ⟨fun K => He.ga K "_coded_sizes", "_coded_sizes", "_coded_sizes", defArgs s__coded_sizes, defBody s__coded_sizes, defScope s__coded_sizes, [], []⟩
abbrev dk14 : He5.DefA := ⟨fun K => He.ga K "pad_frame", "pad_frame", "pad_frame", defArgs s_pad_frame, defBody s_pad_frame, defScope s_pad_frame, [], []⟩
abbrev dk15 : He5.DefA := ⟨fun K => He.ga K "_crop_plane", "_crop_plane", "_crop_plane", defArgs s__crop_plane, defBody s__crop_plane, defScope s__crop_plane, [], []⟩
abbrev dk16 : He5.DefA := ⟨fun K => He.ga K "crop_planes", "crop_planes", "crop_planes", defArgs s_crop_planes, defBody s_crop_planes, defScope s_crop_planes, [], []⟩
abbrev dk17 : He5.DefA := ⟨fun K => He.ga K "_law_refused", "_law_refused", "_law_refused", defArgs s__law_refused, defBody s__law_refused, defScope s__law_refused, [], []⟩
abbrev dk18 : He5.DefA := ⟨fun K => He.ga K "_law_cell", "_law_cell", "_law_cell", defArgs s__law_cell, defBody s__law_cell, defScope s__law_cell, [], []⟩
abbrev dk19 : He5.DefA := ⟨fun K => He.ga K "_law_size", "_law_size", "_law_size", defArgs s__law_size, defBody s__law_size, defScope s__law_size, [], []⟩
abbrev dk20 : He5.DefA := ⟨fun K => He.ga K "_law_plane", "_law_plane", "_law_plane", defArgs s__law_plane, defBody s__law_plane, defScope s__law_plane, [], []⟩
abbrev dk21 : He5.DefA := ⟨fun K => He.ga K "_law_padded", "_law_padded", "_law_padded", defArgs s__law_padded, defBody s__law_padded, defScope s__law_padded, [], []⟩
abbrev dk22 : He5.DefA := ⟨fun K => He.ga K "_law_spoilt", "_law_spoilt", "_law_spoilt", defArgs s__law_spoilt, defBody s__law_spoilt, defScope s__law_spoilt, [], []⟩
abbrev dk23 : He5.DefA := ⟨fun K => He.ga K "_law_up", "_law_up", "_law_up", defArgs s__law_up, defBody s__law_up, defScope s__law_up, [], []⟩
abbrev dk24 : He5.DefA := ⟨fun K => He.ga K "law", "law", "law", defArgs s_law, defBody s_law, defScope s_law, [], []⟩
def fa0 : List FaK := [(fun K => (He.Fa.free "abs").ok K), (fun K => (He.Fa.free "int").ok K), (fun K => (He.Fa.free "list").ok K), (fun K => (He.Fa.free "len").ok K), (fun K => (He.Fa.free "any").ok K), (fun K => (He.Fa.free "zip").ok K), (fun K => (He.Fa.free "range").ok K), (fun K => (He.Fa.free "max").ok K), (fun K => (He.Fa.free "min").ok K), (fun K => (He.Fa.int "BLOCK" 8).ok K), (fun K => (He.Fa.free "isinstance").ok K), (fun K => (He.Fa.cls "Format").ok K), (fun K => (He.Fa.noat "Format" "width").ok K), (fun K => (He.Fa.noat "Format" "height").ok K), (fun K => (He.Fa.noat "Format" "depth").ok K), (fun K => (He.Fa.noat "Format" "chroma").ok K), (fun K => (He.Fa.exc "BadFormat").ok K), (fun K => (He.Fa.glo "BadFormat").ok K), (fun K => (He.Fa.exc "BadFrame").ok K), (fun K => (He.Fa.glo "BadFrame").ok K), (fun K => (He.Fa.exc "OutOfRange").ok K), (fun K => (He.Fa.glo "OutOfRange").ok K), (fun K => (He.Fa.exc "CodecError").ok K), (fun K => (He.Fa.glo "CodecError").ok K), (fun K => (He.Fa.exm "BadFrame" "BadFrame" true).ok K), (kitFB "BadFrame" (fun K => .ref (He.ga K "CodecError")) true), (excCB "BadFrame"), (fun K => (He.Fa.glo "_law_draws").ok K), (fun K => (He.Fa.mkr "Format").ok K), (fun K => (He.Fa.glo "Format").ok K)]
def fa1 : List FaK := [(fun K => (He.Fa.glo "_law_copy").ok K), (fun K => (He.Fa.glo "_check_shape").ok K), (prpB "Format" "planes"), (fun K => (He.Fa.meth "Format" "_plane_size").ok K), (fun K => (He.Fa.meth "Format" "size").ok K), (fun K => (He.Fa.glo "_sizes").ok K), (prpB "Format" "top"), (fun K => (He.Fa.glo "check_frame").ok K), (fun K => (He.Fa.glo "_pad_plane").ok K), (fun K => (He.Fa.meth "Format" "blocks").ok K), (fun K => (He.Fa.meth "Format" "coded_size").ok K), (fun K => (He.Fa.glo "_coded_sizes").ok K), (fun K => (He.Fa.glo "pad_frame").ok K), (fun K => (He.Fa.glo "_crop_plane").ok K), (fun K => (He.Fa.glo "crop_planes").ok K), (fun K => (He.Fa.glo "_law_refused").ok K), (fun K => (He.Fa.glo "_law_cell").ok K), (fun K => (He.Fa.glo "_law_size").ok K), (fun K => (He.Fa.glo "_law_plane").ok K), (fun K => (He.Fa.glo "_law_padded").ok K), (fun K => (He.Fa.glo "_law_spoilt").ok K), (fun K => (He.Fa.glo "_law_up").ok K), (fun K => (He.Fa.glo "law").ok K)]
def fas : List (List FaK) := [fa0, fa1]
def fn0 : List He5.DefA := [dk0, dk1, dk2, dk3, dk4, dk5, dk6, dk7, dk8, dk9, dk10, dk11, dk12, dk13, dk14, dk15, dk16, dk17, dk18, dk19, dk20, dk21, dk22, dk23, dk24]
def fns : List He5.DefA := fn0
def tbs : List He.Tab := []
def nms0 : List Str := ["_wall", "__name__", "CodecError", "BadFormat", "BadFrame", "OutOfRange", "BLOCK", "Format", "check_frame", "pad_frame", "crop_planes", "_sizes", "_coded_sizes", "_check_shape", "_pad_plane", "_crop_plane", "_law_cell", "_law_draws", "_law_plane", "_law_copy", "_law_size", "_law_up", "_law_padded", "_law_spoilt", "_law_refused"]
def nms : List Str := nms0
abbrev RowK : PySem.W.OpenRow := PySem.W.OpenLaw.row PySem.Challenge.rw_thaumatrope_k03_frames_padded_and_croppe
abbrev hkK : PySem.W.Hook := hookK 6 fas fns tbs
def obK (s : PySem.W.SharedT) : AlK := obsKG 6 fas fns tbs (HandSHeadRun.getT s)
theorem obK_eq (s : PySem.W.SharedT) : obK s = hkK.obs s.abs := obsKG_eq (HandSHeadRun.getT_eq s)
theorem runK0 (w : World) : HandSHeadRun.RunEq RowK (PySem.W.view RowK.prog [27]) hkK obK 20000 nms (w.withFollow "special-get-raises" false) := by
  intro os
  kernel_rfl
theorem runK1 (w : World) : HandSHeadRun.RunEq RowK (PySem.W.view RowK.prog [27]) hkK obK 20000 nms (w.withFollow "special-get-raises" true) := by
  intro os
  kernel_rfl
theorem runK (w : World) : HandSHeadRun.RunEq RowK (PySem.W.view RowK.prog [27]) hkK obK 20000 nms w := PySem.W.byRow2 "special-get-raises" runK0 runK1 w
section
variable {P : Program} {w : World} {K : PySem.W.Frag} {h : Heap} {mg : Str → Option Value} (X : K.In h) (G : h.Ns mainGlobals mg) (c : SaysK fas fns tbs w K)
include X G c
theorem T_ : Txt w K mg (adK K) := ⟨He.free_ok X G (c.fact 0 0 (l := fa0) (f := (fun K => (He.Fa.free "abs").ok K)) rfl rfl), He.free_ok X G (c.fact 0 1 (l := fa0) (f := (fun K => (He.Fa.free "int").ok K)) rfl rfl), He.free_ok X G (c.fact 0 2 (l := fa0) (f := (fun K => (He.Fa.free "list").ok K)) rfl rfl), He.free_ok X G (c.fact 0 3 (l := fa0) (f := (fun K => (He.Fa.free "len").ok K)) rfl rfl), He.free_ok X G (c.fact 0 4 (l := fa0) (f := (fun K => (He.Fa.free "any").ok K)) rfl rfl), He.free_ok X G (c.fact 0 5 (l := fa0) (f := (fun K => (He.Fa.free "zip").ok K)) rfl rfl), He.free_ok X G (c.fact 0 6 (l := fa0) (f := (fun K => (He.Fa.free "range").ok K)) rfl rfl), He.free_ok X G (c.fact 0 7 (l := fa0) (f := (fun K => (He.Fa.free "max").ok K)) rfl rfl), He.free_ok X G (c.fact 0 8 (l := fa0) (f := (fun K => (He.Fa.free "min").ok K)) rfl rfl), (Exists.elim (He.int_ok X G (c.fact 0 9 (l := fa0) (f := (fun K => (He.Fa.int "BLOCK" 8).ok K)) rfl rfl)) fun t e => ⟨_, e, ⟨t, rfl⟩⟩), He.free_ok X G (c.fact 0 10 (l := fa0) (f := (fun K => (He.Fa.free "isinstance").ok K)) rfl rfl), He.cls_ok (c.fact 0 11 (l := fa0) (f := (fun K => (He.Fa.cls "Format").ok K)) rfl rfl), He.noat_ok (c.fact 0 12 (l := fa0) (f := (fun K => (He.Fa.noat "Format" "width").ok K)) rfl rfl), He.noat_ok (c.fact 0 13 (l := fa0) (f := (fun K => (He.Fa.noat "Format" "height").ok K)) rfl rfl), He.noat_ok (c.fact 0 14 (l := fa0) (f := (fun K => (He.Fa.noat "Format" "depth").ok K)) rfl rfl), He.noat_ok (c.fact 0 15 (l := fa0) (f := (fun K => (He.Fa.noat "Format" "chroma").ok K)) rfl rfl), (He.glo_ok X G (c.fact 0 17 (l := fa0) (f := (fun K => (He.Fa.glo "BadFormat").ok K)) rfl rfl)), (He.exc_ok (c.fact 0 16 (l := fa0) (f := (fun K => (He.Fa.exc "BadFormat").ok K)) rfl rfl)).1, (He.exc_ok (c.fact 0 16 (l := fa0) (f := (fun K => (He.Fa.exc "BadFormat").ok K)) rfl rfl)).2.1, (He.exc_ok (c.fact 0 16 (l := fa0) (f := (fun K => (He.Fa.exc "BadFormat").ok K)) rfl rfl)).2.2.1, (He.exc_ok (c.fact 0 16 (l := fa0) (f := (fun K => (He.Fa.exc "BadFormat").ok K)) rfl rfl)).2.2.2, (He.glo_ok X G (c.fact 0 19 (l := fa0) (f := (fun K => (He.Fa.glo "BadFrame").ok K)) rfl rfl)), (He.exc_ok (c.fact 0 18 (l := fa0) (f := (fun K => (He.Fa.exc "BadFrame").ok K)) rfl rfl)).1, (He.exc_ok (c.fact 0 18 (l := fa0) (f := (fun K => (He.Fa.exc "BadFrame").ok K)) rfl rfl)).2.1, (He.exc_ok (c.fact 0 18 (l := fa0) (f := (fun K => (He.Fa.exc "BadFrame").ok K)) rfl rfl)).2.2.1, (He.exc_ok (c.fact 0 18 (l := fa0) (f := (fun K => (He.Fa.exc "BadFrame").ok K)) rfl rfl)).2.2.2, (He.glo_ok X G (c.fact 0 21 (l := fa0) (f := (fun K => (He.Fa.glo "OutOfRange").ok K)) rfl rfl)), (He.exc_ok (c.fact 0 20 (l := fa0) (f := (fun K => (He.Fa.exc "OutOfRange").ok K)) rfl rfl)).1, (He.exc_ok (c.fact 0 20 (l := fa0) (f := (fun K => (He.Fa.exc "OutOfRange").ok K)) rfl rfl)).2.1, (He.exc_ok (c.fact 0 20 (l := fa0) (f := (fun K => (He.Fa.exc "OutOfRange").ok K)) rfl rfl)).2.2.1, (He.exc_ok (c.fact 0 20 (l := fa0) (f := (fun K => (He.Fa.exc "OutOfRange").ok K)) rfl rfl)).2.2.2, (He.glo_ok X G (c.fact 0 23 (l := fa0) (f := (fun K => (He.Fa.glo "CodecError").ok K)) rfl rfl)), (He.exc_ok (c.fact 0 22 (l := fa0) (f := (fun K => (He.Fa.exc "CodecError").ok K)) rfl rfl)).1, (He.exc_ok (c.fact 0 22 (l := fa0) (f := (fun K => (He.Fa.exc "CodecError").ok K)) rfl rfl)).2.1, (He.exc_ok (c.fact 0 22 (l := fa0) (f := (fun K => (He.Fa.exc "CodecError").ok K)) rfl rfl)).2.2.1, (He.exc_ok (c.fact 0 22 (l := fa0) (f := (fun K => (He.Fa.exc "CodecError").ok K)) rfl rfl)).2.2.2, He.exm_ok (c.fact 0 24 (l := fa0) (f := (fun K => (He.Fa.exm "BadFrame" "BadFrame" true).ok K)) rfl rfl), kitFB_ok (c.fact 0 25 (l := fa0) (f := (kitFB "BadFrame" (fun K => .ref (He.ga K "CodecError")) true)) rfl rfl), excCB_ok (c.fact 0 26 (l := fa0) (f := (excCB "BadFrame")) rfl rfl)⟩
theorem D_0 : DefX K mg "_law_draws" s__law_draws ["cell", "limits"] pats__law_draws := by
  obtain ⟨fd0, F0⟩ : ∃ fd, FunD K "_law_draws" "_law_draws" (defArgs s__law_draws) (defBody s__law_draws) (defScope s__law_draws) [] [] (He.ga K "_law_draws") fd := c.def_ 0 (d := dk0) rfl
  obtain ⟨kV, dc, pm, an, cd, ct, rfl⟩ := fnD_ex F0
  exact ⟨_, _, _, _, F0, (He.glo_ok X G (c.fact 0 27 (l := fa0) (f := (fun K => (He.Fa.glo "_law_draws").ok K)) rfl rfl)), (all_consQ (Bnd.all fun us ws vs zs l1 l2 r rz => by
      obtain ⟨u0, u1, rfl⟩ := len2 (r.length.symm.trans l1)
      obtain rfl := len0 (rz.length.symm.trans l2)
      cases r with | cons r0 r =>
        cases r with | cons r1 r =>
          cases r
          cases rz
          exact ⟨[u0, u1], rfl, (.cons r0 (.cons r1 .nil))⟩) all_nilQ)⟩
theorem D_1 : InitX K mg (He.ga K "Format") "Format" "Format.__init__" s_Format___init__ ["self", "width", "height", "depth", "chroma"] pats_Format___init__ := by
  obtain ⟨fd0, F1⟩ : ∃ fd, FunD K "__init__" "Format.__init__" (defArgs s_Format___init__) (defBody s_Format___init__) (defScope s_Format___init__) [] [("depth", V.int 8), ("chroma", V.int 0)] (He.ma K (He.ga K "Format") "__init__") fd := c.def_ 1 (d := dk1) rfl
  obtain ⟨kV, dc, pm, an, cd, ct, rfl⟩ := fnD_ex F1
  exact ⟨_, _, _, _, F1, He.mkr_ok (c.fact 0 28 (l := fa0) (f := (fun K => (He.Fa.mkr "Format").ok K)) rfl rfl), (He.glo_ok X G (c.fact 0 29 (l := fa0) (f := (fun K => (He.Fa.glo "Format").ok K)) rfl rfl)), (all_consQ (Bnd.all fun us ws vs zs l1 l2 r rz => by
      obtain ⟨u0, u1, u2, rfl⟩ := len3 (r.length.symm.trans l1)
      obtain ⟨w0, w1, rfl⟩ := len2 (rz.length.symm.trans l2)
      cases r with | cons r0 r =>
        cases r with | cons r1 r =>
          cases r with | cons r2 r =>
            cases r
            cases rz with | cons q0 rz =>
              cases rz with | cons q1 rz =>
                cases rz
                exact ⟨[u0, u1, u2, w0, w1], rfl, (.cons r0 (.cons r1 (.cons r2 (.cons q0 (.cons q1 .nil)))))⟩) all_nilQ)⟩
theorem D_2 : DefX K mg "_law_copy" s__law_copy ["planes"] pats__law_copy := by
  obtain ⟨fd0, F2⟩ : ∃ fd, FunD K "_law_copy" "_law_copy" (defArgs s__law_copy) (defBody s__law_copy) (defScope s__law_copy) [] [] (He.ga K "_law_copy") fd := c.def_ 2 (d := dk2) rfl
  obtain ⟨kV, dc, pm, an, cd, ct, rfl⟩ := fnD_ex F2
  exact ⟨_, _, _, _, F2, (He.glo_ok X G (c.fact 1 0 (l := fa1) (f := (fun K => (He.Fa.glo "_law_copy").ok K)) rfl rfl)), (all_consQ (Bnd.all fun us ws vs zs l1 l2 r rz => by
      obtain ⟨u0, rfl⟩ := len1 (r.length.symm.trans l1)
      obtain rfl := len0 (rz.length.symm.trans l2)
      cases r with | cons r0 r =>
        cases r
        cases rz
        exact ⟨[u0], rfl, (.cons r0 .nil)⟩) all_nilQ)⟩
theorem D_3 : DefX K mg "_check_shape" s__check_shape ["planes", "sizes"] pats__check_shape := by
  obtain ⟨fd0, F3⟩ : ∃ fd, FunD K "_check_shape" "_check_shape" (defArgs s__check_shape) (defBody s__check_shape) (defScope s__check_shape) [] [] (He.ga K "_check_shape") fd := c.def_ 3 (d := dk3) rfl
  obtain ⟨kV, dc, pm, an, cd, ct, rfl⟩ := fnD_ex F3
  exact ⟨_, _, _, _, F3, (He.glo_ok X G (c.fact 1 1 (l := fa1) (f := (fun K => (He.Fa.glo "_check_shape").ok K)) rfl rfl)), (all_consQ (Bnd.all fun us ws vs zs l1 l2 r rz => by
      obtain ⟨u0, u1, rfl⟩ := len2 (r.length.symm.trans l1)
      obtain rfl := len0 (rz.length.symm.trans l2)
      cases r with | cons r0 r =>
        cases r with | cons r1 r =>
          cases r
          cases rz
          exact ⟨[u0, u1], rfl, (.cons r0 (.cons r1 .nil))⟩) all_nilQ)⟩
theorem D_4 : PropX K (He.ga K "Format") "Format.planes" "planes" s_Format_planes ["self"] pats_Format_planes := by
  obtain ⟨fd0, F4⟩ : ∃ fd, FunD K "planes" "Format.planes" (defArgs s_Format_planes) (defBody s_Format_planes) (defScope s_Format_planes) [] [] (prA "Format" "planes" K) fd := c.def_ 4 (d := dk4) rfl
  obtain ⟨kV, dc, pm, an, cd, ct, rfl⟩ := fnD_ex F4
  obtain ⟨e1, e2, e3, rs, e4⟩ := prpB_ok (c.fact 1 2 (l := fa1) (f := (prpB "Format" "planes")) rfl rfl)
  exact ⟨_, _, _, _, _, F4, ⟨e1, e2, e3, _, e4⟩, FunD.bindsN F4 (fun _ _ _ _ _ _ us h => by obtain ⟨u0, rfl⟩ := len1 h; rfl)⟩
theorem D_5 : MethX K (He.ga K "Format") "Format._plane_size" "_plane_size" s_Format__plane_size ["self", "plane", "width", "height"] pats_Format__plane_size := by
  obtain ⟨fd0, F5⟩ : ∃ fd, FunD K "_plane_size" "Format._plane_size" (defArgs s_Format__plane_size) (defBody s_Format__plane_size) (defScope s_Format__plane_size) [] [] (He.ma K (He.ga K "Format") "_plane_size") fd := c.def_ 5 (d := dk5) rfl
  obtain ⟨kV, dc, pm, an, cd, ct, rfl⟩ := fnD_ex F5
  exact ⟨_, _, _, _, F5, He.meth_ok (c.fact 1 3 (l := fa1) (f := (fun K => (He.Fa.meth "Format" "_plane_size").ok K)) rfl rfl), (all_consQ (Bnd.all fun us ws vs zs l1 l2 r rz => by
      obtain ⟨u0, u1, u2, u3, rfl⟩ := len4 (r.length.symm.trans l1)
      obtain rfl := len0 (rz.length.symm.trans l2)
      cases r with | cons r0 r =>
        cases r with | cons r1 r =>
          cases r with | cons r2 r =>
            cases r with | cons r3 r =>
              cases r
              cases rz
              exact ⟨[u0, u1, u2, u3], rfl, (.cons r0 (.cons r1 (.cons r2 (.cons r3 .nil))))⟩) all_nilQ)⟩
theorem D_6 : MethX K (He.ga K "Format") "Format.size" "size" s_Format_size ["self", "plane"] pats_Format_size := by
  obtain ⟨fd0, F6⟩ : ∃ fd, FunD K "size" "Format.size" (defArgs s_Format_size) (defBody s_Format_size) (defScope s_Format_size) [] [] (He.ma K (He.ga K "Format") "size") fd := c.def_ 6 (d := dk6) rfl
  obtain ⟨kV, dc, pm, an, cd, ct, rfl⟩ := fnD_ex F6
  exact ⟨_, _, _, _, F6, He.meth_ok (c.fact 1 4 (l := fa1) (f := (fun K => (He.Fa.meth "Format" "size").ok K)) rfl rfl), (all_consQ (Bnd.all fun us ws vs zs l1 l2 r rz => by
      obtain ⟨u0, u1, rfl⟩ := len2 (r.length.symm.trans l1)
      obtain rfl := len0 (rz.length.symm.trans l2)
      cases r with | cons r0 r =>
        cases r with | cons r1 r =>
          cases r
          cases rz
          exact ⟨[u0, u1], rfl, (.cons r0 (.cons r1 .nil))⟩) all_nilQ)⟩
theorem D_7 : DefX K mg "_sizes" s__sizes ["fmt"] pats__sizes := by
  obtain ⟨fd0, F7⟩ : ∃ fd, FunD K "_sizes" "_sizes" (defArgs s__sizes) (defBody s__sizes) (defScope s__sizes) [] [] (He.ga K "_sizes") fd := c.def_ 7 (d := dk7) rfl
  obtain ⟨kV, dc, pm, an, cd, ct, rfl⟩ := fnD_ex F7
  exact ⟨_, _, _, _, F7, (He.glo_ok X G (c.fact 1 5 (l := fa1) (f := (fun K => (He.Fa.glo "_sizes").ok K)) rfl rfl)), (all_consQ (Bnd.all fun us ws vs zs l1 l2 r rz => by
      obtain ⟨u0, rfl⟩ := len1 (r.length.symm.trans l1)
      obtain rfl := len0 (rz.length.symm.trans l2)
      cases r with | cons r0 r =>
        cases r
        cases rz
        exact ⟨[u0], rfl, (.cons r0 .nil)⟩) all_nilQ)⟩
theorem D_8 : PropX K (He.ga K "Format") "Format.top" "top" s_Format_top ["self"] pats_Format_top := by
  obtain ⟨fd0, F8⟩ : ∃ fd, FunD K "top" "Format.top" (defArgs s_Format_top) (defBody s_Format_top) (defScope s_Format_top) [] [] (prA "Format" "top" K) fd := c.def_ 8 (d := dk8) rfl
  obtain ⟨kV, dc, pm, an, cd, ct, rfl⟩ := fnD_ex F8
  obtain ⟨e1, e2, e3, rs, e4⟩ := prpB_ok (c.fact 1 6 (l := fa1) (f := (prpB "Format" "top")) rfl rfl)
  exact ⟨_, _, _, _, _, F8, ⟨e1, e2, e3, _, e4⟩, FunD.bindsN F8 (fun _ _ _ _ _ _ us h => by obtain ⟨u0, rfl⟩ := len1 h; rfl)⟩
theorem D_9 : DefX K mg "check_frame" s_check_frame ["fmt", "frame"] pats_check_frame := by
  obtain ⟨fd0, F9⟩ : ∃ fd, FunD K "check_frame" "check_frame" (defArgs s_check_frame) (defBody s_check_frame) (defScope s_check_frame) [] [] (He.ga K "check_frame") fd := c.def_ 9 (d := dk9) rfl
  obtain ⟨kV, dc, pm, an, cd, ct, rfl⟩ := fnD_ex F9
  exact ⟨_, _, _, _, F9, (He.glo_ok X G (c.fact 1 7 (l := fa1) (f := (fun K => (He.Fa.glo "check_frame").ok K)) rfl rfl)), (all_consQ (Bnd.all fun us ws vs zs l1 l2 r rz => by
      obtain ⟨u0, u1, rfl⟩ := len2 (r.length.symm.trans l1)
      obtain rfl := len0 (rz.length.symm.trans l2)
      cases r with | cons r0 r =>
        cases r with | cons r1 r =>
          cases r
          cases rz
          exact ⟨[u0, u1], rfl, (.cons r0 (.cons r1 .nil))⟩) all_nilQ)⟩
theorem D_10 : DefX K mg "_pad_plane" s__pad_plane ["plane", "size"] pats__pad_plane := by
  obtain ⟨fd0, F10⟩ : ∃ fd, FunD K "_pad_plane" "_pad_plane" (defArgs s__pad_plane) (defBody s__pad_plane) (defScope s__pad_plane) [] [] (He.ga K "_pad_plane") fd := c.def_ 10 (d := dk10) rfl
  obtain ⟨kV, dc, pm, an, cd, ct, rfl⟩ := fnD_ex F10
  exact ⟨_, _, _, _, F10, (He.glo_ok X G (c.fact 1 8 (l := fa1) (f := (fun K => (He.Fa.glo "_pad_plane").ok K)) rfl rfl)), (all_consQ (Bnd.all fun us ws vs zs l1 l2 r rz => by
      obtain ⟨u0, u1, rfl⟩ := len2 (r.length.symm.trans l1)
      obtain rfl := len0 (rz.length.symm.trans l2)
      cases r with | cons r0 r =>
        cases r with | cons r1 r =>
          cases r
          cases rz
          exact ⟨[u0, u1], rfl, (.cons r0 (.cons r1 .nil))⟩) all_nilQ)⟩
theorem D_11 : MethX K (He.ga K "Format") "Format.blocks" "blocks" s_Format_blocks ["self"] pats_Format_blocks := by
  obtain ⟨fd0, F11⟩ : ∃ fd, FunD K "blocks" "Format.blocks" (defArgs s_Format_blocks) (defBody s_Format_blocks) (defScope s_Format_blocks) [] [] (He.ma K (He.ga K "Format") "blocks") fd := c.def_ 11 (d := dk11) rfl
  obtain ⟨kV, dc, pm, an, cd, ct, rfl⟩ := fnD_ex F11
  exact ⟨_, _, _, _, F11, He.meth_ok (c.fact 1 9 (l := fa1) (f := (fun K => (He.Fa.meth "Format" "blocks").ok K)) rfl rfl), (all_consQ (Bnd.all fun us ws vs zs l1 l2 r rz => by
      obtain ⟨u0, rfl⟩ := len1 (r.length.symm.trans l1)
      obtain rfl := len0 (rz.length.symm.trans l2)
      cases r with | cons r0 r =>
        cases r
        cases rz
        exact ⟨[u0], rfl, (.cons r0 .nil)⟩) all_nilQ)⟩
theorem D_12 : MethX K (He.ga K "Format") "Format.coded_size" "coded_size" s_Format_coded_size ["self", "plane"] pats_Format_coded_size := by
  obtain ⟨fd0, F12⟩ : ∃ fd, FunD K "coded_size" "Format.coded_size" (defArgs s_Format_coded_size) (defBody s_Format_coded_size) (defScope s_Format_coded_size) [] [] (He.ma K (He.ga K "Format") "coded_size") fd := c.def_ 12 (d := dk12) rfl
  obtain ⟨kV, dc, pm, an, cd, ct, rfl⟩ := fnD_ex F12
  exact ⟨_, _, _, _, F12, He.meth_ok (c.fact 1 10 (l := fa1) (f := (fun K => (He.Fa.meth "Format" "coded_size").ok K)) rfl rfl), (all_consQ (Bnd.all fun us ws vs zs l1 l2 r rz => by
      obtain ⟨u0, u1, rfl⟩ := len2 (r.length.symm.trans l1)
      obtain rfl := len0 (rz.length.symm.trans l2)
      cases r with | cons r0 r =>
        cases r with | cons r1 r =>
          cases r
          cases rz
          exact ⟨[u0, u1], rfl, (.cons r0 (.cons r1 .nil))⟩) all_nilQ)⟩
theorem D_13 : DefX K mg "_coded_sizes" s__coded_sizes ["fmt"] pats__coded_sizes := by
  obtain ⟨fd0, F13⟩ : ∃ fd, FunD K "_coded_sizes" "_coded_sizes" (defArgs s__coded_sizes) (defBody s__coded_sizes) (defScope s__coded_sizes) [] [] (He.ga K "_coded_sizes") fd := c.def_ 13 (d := dk13) rfl
  obtain ⟨kV, dc, pm, an, cd, ct, rfl⟩ := fnD_ex F13
  exact ⟨_, _, _, _, F13, (He.glo_ok X G (c.fact 1 11 (l := fa1) (f := (fun K => (He.Fa.glo "_coded_sizes").ok K)) rfl rfl)), (all_consQ (Bnd.all fun us ws vs zs l1 l2 r rz => by
      obtain ⟨u0, rfl⟩ := len1 (r.length.symm.trans l1)
      obtain rfl := len0 (rz.length.symm.trans l2)
      cases r with | cons r0 r =>
        cases r
        cases rz
        exact ⟨[u0], rfl, (.cons r0 .nil)⟩) all_nilQ)⟩
theorem D_14 : DefX K mg "pad_frame" s_pad_frame ["fmt", "frame"] pats_pad_frame := by
  obtain ⟨fd0, F14⟩ : ∃ fd, FunD K "pad_frame" "pad_frame" (defArgs s_pad_frame) (defBody s_pad_frame) (defScope s_pad_frame) [] [] (He.ga K "pad_frame") fd := c.def_ 14 (d := dk14) rfl
  obtain ⟨kV, dc, pm, an, cd, ct, rfl⟩ := fnD_ex F14
  exact ⟨_, _, _, _, F14, (He.glo_ok X G (c.fact 1 12 (l := fa1) (f := (fun K => (He.Fa.glo "pad_frame").ok K)) rfl rfl)), (all_consQ (Bnd.all fun us ws vs zs l1 l2 r rz => by
      obtain ⟨u0, u1, rfl⟩ := len2 (r.length.symm.trans l1)
      obtain rfl := len0 (rz.length.symm.trans l2)
      cases r with | cons r0 r =>
        cases r with | cons r1 r =>
          cases r
          cases rz
          exact ⟨[u0, u1], rfl, (.cons r0 (.cons r1 .nil))⟩) all_nilQ)⟩
theorem D_15 : DefX K mg "_crop_plane" s__crop_plane ["plane", "size"] pats__crop_plane := by
  obtain ⟨fd0, F15⟩ : ∃ fd, FunD K "_crop_plane" "_crop_plane" (defArgs s__crop_plane) (defBody s__crop_plane) (defScope s__crop_plane) [] [] (He.ga K "_crop_plane") fd := c.def_ 15 (d := dk15) rfl
  obtain ⟨kV, dc, pm, an, cd, ct, rfl⟩ := fnD_ex F15
  exact ⟨_, _, _, _, F15, (He.glo_ok X G (c.fact 1 13 (l := fa1) (f := (fun K => (He.Fa.glo "_crop_plane").ok K)) rfl rfl)), (all_consQ (Bnd.all fun us ws vs zs l1 l2 r rz => by
      obtain ⟨u0, u1, rfl⟩ := len2 (r.length.symm.trans l1)
      obtain rfl := len0 (rz.length.symm.trans l2)
      cases r with | cons r0 r =>
        cases r with | cons r1 r =>
          cases r
          cases rz
          exact ⟨[u0, u1], rfl, (.cons r0 (.cons r1 .nil))⟩) all_nilQ)⟩
theorem D_16 : DefX K mg "crop_planes" s_crop_planes ["fmt", "planes"] pats_crop_planes := by
  obtain ⟨fd0, F16⟩ : ∃ fd, FunD K "crop_planes" "crop_planes" (defArgs s_crop_planes) (defBody s_crop_planes) (defScope s_crop_planes) [] [] (He.ga K "crop_planes") fd := c.def_ 16 (d := dk16) rfl
  obtain ⟨kV, dc, pm, an, cd, ct, rfl⟩ := fnD_ex F16
  exact ⟨_, _, _, _, F16, (He.glo_ok X G (c.fact 1 14 (l := fa1) (f := (fun K => (He.Fa.glo "crop_planes").ok K)) rfl rfl)), (all_consQ (Bnd.all fun us ws vs zs l1 l2 r rz => by
      obtain ⟨u0, u1, rfl⟩ := len2 (r.length.symm.trans l1)
      obtain rfl := len0 (rz.length.symm.trans l2)
      cases r with | cons r0 r =>
        cases r with | cons r1 r =>
          cases r
          cases rz
          exact ⟨[u0, u1], rfl, (.cons r0 (.cons r1 .nil))⟩) all_nilQ)⟩
theorem D_17 : DefX K mg "_law_refused" s__law_refused ["fmt", "planes"] pats__law_refused := by
  obtain ⟨fd0, F17⟩ : ∃ fd, FunD K "_law_refused" "_law_refused" (defArgs s__law_refused) (defBody s__law_refused) (defScope s__law_refused) [] [] (He.ga K "_law_refused") fd := c.def_ 17 (d := dk17) rfl
  obtain ⟨kV, dc, pm, an, cd, ct, rfl⟩ := fnD_ex F17
  exact ⟨_, _, _, _, F17, (He.glo_ok X G (c.fact 1 15 (l := fa1) (f := (fun K => (He.Fa.glo "_law_refused").ok K)) rfl rfl)), (all_consQ (Bnd.all fun us ws vs zs l1 l2 r rz => by
      obtain ⟨u0, u1, rfl⟩ := len2 (r.length.symm.trans l1)
      obtain rfl := len0 (rz.length.symm.trans l2)
      cases r with | cons r0 r =>
        cases r with | cons r1 r =>
          cases r
          cases rz
          exact ⟨[u0, u1], rfl, (.cons r0 (.cons r1 .nil))⟩) all_nilQ)⟩
theorem D_18 : DefX K mg "_law_cell" s__law_cell ["script", "k"] pats__law_cell := by
  obtain ⟨fd0, F18⟩ : ∃ fd, FunD K "_law_cell" "_law_cell" (defArgs s__law_cell) (defBody s__law_cell) (defScope s__law_cell) [] [] (He.ga K "_law_cell") fd := c.def_ 18 (d := dk18) rfl
  obtain ⟨kV, dc, pm, an, cd, ct, rfl⟩ := fnD_ex F18
  exact ⟨_, _, _, _, F18, (He.glo_ok X G (c.fact 1 16 (l := fa1) (f := (fun K => (He.Fa.glo "_law_cell").ok K)) rfl rfl)), (all_consQ (Bnd.all fun us ws vs zs l1 l2 r rz => by
      obtain ⟨u0, u1, rfl⟩ := len2 (r.length.symm.trans l1)
      obtain rfl := len0 (rz.length.symm.trans l2)
      cases r with | cons r0 r =>
        cases r with | cons r1 r =>
          cases r
          cases rz
          exact ⟨[u0, u1], rfl, (.cons r0 (.cons r1 .nil))⟩) all_nilQ)⟩
theorem D_19 : DefX K mg "_law_size" s__law_size ["width", "height", "chroma", "plane"] pats__law_size := by
  obtain ⟨fd0, F19⟩ : ∃ fd, FunD K "_law_size" "_law_size" (defArgs s__law_size) (defBody s__law_size) (defScope s__law_size) [] [] (He.ga K "_law_size") fd := c.def_ 19 (d := dk19) rfl
  obtain ⟨kV, dc, pm, an, cd, ct, rfl⟩ := fnD_ex F19
  exact ⟨_, _, _, _, F19, (He.glo_ok X G (c.fact 1 17 (l := fa1) (f := (fun K => (He.Fa.glo "_law_size").ok K)) rfl rfl)), (all_consQ (Bnd.all fun us ws vs zs l1 l2 r rz => by
      obtain ⟨u0, u1, u2, u3, rfl⟩ := len4 (r.length.symm.trans l1)
      obtain rfl := len0 (rz.length.symm.trans l2)
      cases r with | cons r0 r =>
        cases r with | cons r1 r =>
          cases r with | cons r2 r =>
            cases r with | cons r3 r =>
              cases r
              cases rz
              exact ⟨[u0, u1, u2, u3], rfl, (.cons r0 (.cons r1 (.cons r2 (.cons r3 .nil))))⟩) all_nilQ)⟩
theorem D_20 : DefX K mg "_law_plane" s__law_plane ["cell", "width", "height", "top"] pats__law_plane := by
  obtain ⟨fd0, F20⟩ : ∃ fd, FunD K "_law_plane" "_law_plane" (defArgs s__law_plane) (defBody s__law_plane) (defScope s__law_plane) [] [] (He.ga K "_law_plane") fd := c.def_ 20 (d := dk20) rfl
  obtain ⟨kV, dc, pm, an, cd, ct, rfl⟩ := fnD_ex F20
  exact ⟨_, _, _, _, F20, (He.glo_ok X G (c.fact 1 18 (l := fa1) (f := (fun K => (He.Fa.glo "_law_plane").ok K)) rfl rfl)), (all_consQ (Bnd.all fun us ws vs zs l1 l2 r rz => by
      obtain ⟨u0, u1, u2, u3, rfl⟩ := len4 (r.length.symm.trans l1)
      obtain rfl := len0 (rz.length.symm.trans l2)
      cases r with | cons r0 r =>
        cases r with | cons r1 r =>
          cases r with | cons r2 r =>
            cases r with | cons r3 r =>
              cases r
              cases rz
              exact ⟨[u0, u1, u2, u3], rfl, (.cons r0 (.cons r1 (.cons r2 (.cons r3 .nil))))⟩) all_nilQ)⟩
theorem D_21 : DefX K mg "_law_padded" s__law_padded ["plane", "width", "height"] pats__law_padded := by
  obtain ⟨fd0, F21⟩ : ∃ fd, FunD K "_law_padded" "_law_padded" (defArgs s__law_padded) (defBody s__law_padded) (defScope s__law_padded) [] [] (He.ga K "_law_padded") fd := c.def_ 21 (d := dk21) rfl
  obtain ⟨kV, dc, pm, an, cd, ct, rfl⟩ := fnD_ex F21
  exact ⟨_, _, _, _, F21, (He.glo_ok X G (c.fact 1 19 (l := fa1) (f := (fun K => (He.Fa.glo "_law_padded").ok K)) rfl rfl)), (all_consQ (Bnd.all fun us ws vs zs l1 l2 r rz => by
      obtain ⟨u0, u1, u2, rfl⟩ := len3 (r.length.symm.trans l1)
      obtain rfl := len0 (rz.length.symm.trans l2)
      cases r with | cons r0 r =>
        cases r with | cons r1 r =>
          cases r with | cons r2 r =>
            cases r
            cases rz
            exact ⟨[u0, u1, u2], rfl, (.cons r0 (.cons r1 (.cons r2 .nil)))⟩) all_nilQ)⟩
theorem D_22 : DefX K mg "_law_spoilt" s__law_spoilt ["planes", "kind", "plane", "row", "sample"] pats__law_spoilt := by
  obtain ⟨fd0, F22⟩ : ∃ fd, FunD K "_law_spoilt" "_law_spoilt" (defArgs s__law_spoilt) (defBody s__law_spoilt) (defScope s__law_spoilt) [] [] (He.ga K "_law_spoilt") fd := c.def_ 22 (d := dk22) rfl
  obtain ⟨kV, dc, pm, an, cd, ct, rfl⟩ := fnD_ex F22
  exact ⟨_, _, _, _, F22, (He.glo_ok X G (c.fact 1 20 (l := fa1) (f := (fun K => (He.Fa.glo "_law_spoilt").ok K)) rfl rfl)), (all_consQ (Bnd.all fun us ws vs zs l1 l2 r rz => by
      obtain ⟨u0, u1, u2, u3, u4, rfl⟩ := len5 (r.length.symm.trans l1)
      obtain rfl := len0 (rz.length.symm.trans l2)
      cases r with | cons r0 r =>
        cases r with | cons r1 r =>
          cases r with | cons r2 r =>
            cases r with | cons r3 r =>
              cases r with | cons r4 r =>
                cases r
                cases rz
                exact ⟨[u0, u1, u2, u3, u4], rfl, (.cons r0 (.cons r1 (.cons r2 (.cons r3 (.cons r4 .nil)))))⟩) all_nilQ)⟩
theorem D_23 : DefX K mg "_law_up" s__law_up ["n"] pats__law_up := by
  obtain ⟨fd0, F23⟩ : ∃ fd, FunD K "_law_up" "_law_up" (defArgs s__law_up) (defBody s__law_up) (defScope s__law_up) [] [] (He.ga K "_law_up") fd := c.def_ 23 (d := dk23) rfl
  obtain ⟨kV, dc, pm, an, cd, ct, rfl⟩ := fnD_ex F23
  exact ⟨_, _, _, _, F23, (He.glo_ok X G (c.fact 1 21 (l := fa1) (f := (fun K => (He.Fa.glo "_law_up").ok K)) rfl rfl)), (all_consQ (Bnd.all fun us ws vs zs l1 l2 r rz => by
      obtain ⟨u0, rfl⟩ := len1 (r.length.symm.trans l1)
      obtain rfl := len0 (rz.length.symm.trans l2)
      cases r with | cons r0 r =>
        cases r
        cases rz
        exact ⟨[u0], rfl, (.cons r0 .nil)⟩) all_nilQ)⟩
theorem R__law_draws (base : Heap) : CalX P w K mg base 1 "_law_draws" (sp__law_draws K (adK K)) pats__law_draws := ok__law_draws (AD := adK K) (D_0 X G c) (T_ X G c) 
theorem R_Format___init__ (base : Heap) : MakX P w K mg base 1 "Format" (adK K).c_Format (sp_Format___init__ K (adK K)) pats_Format___init__ := ok_Format___init__ (AD := adK K) (D_1 X G c) (T_ X G c) 
theorem R__law_copy (base : Heap) : CalX P w K mg base 1 "_law_copy" (sp__law_copy K (adK K)) pats__law_copy := ok__law_copy (AD := adK K) (D_2 X G c) (T_ X G c) 
theorem R__check_shape (base : Heap) : CalX P w K mg base 1 "_check_shape" (sp__check_shape K (adK K)) pats__check_shape := ok__check_shape (AD := adK K) (D_3 X G c) (T_ X G c) 
theorem R_Format_planes (base : Heap) : PropY P w K mg base 1 (adK K).c_Format "planes" (sp_Format_planes K (adK K)) pats_Format_planes := ok_Format_planes (AD := adK K) (D_4 X G c) (T_ X G c) 
theorem R_Format__plane_size (base : Heap) : MetX P w K mg base 3 (adK K).c_Format "_plane_size" (sp_Format__plane_size K (adK K)) pats_Format__plane_size := ok_Format__plane_size (AD := adK K) (D_5 X G c) (T_ X G c) (R_Format_planes X G c base)
theorem R_Format_size (base : Heap) : MetX P w K mg base 4 (adK K).c_Format "size" (sp_Format_size K (adK K)) pats_Format_size := ok_Format_size (AD := adK K) (D_6 X G c) (T_ X G c) (R_Format__plane_size X G c base)
theorem R__sizes (base : Heap) : CalX P w K mg base 5 "_sizes" (sp__sizes K (adK K)) pats__sizes := ok__sizes (AD := adK K) (D_7 X G c) (T_ X G c) (R_Format_planes X G c base) (R_Format_size X G c base)
theorem R_Format_top (base : Heap) : PropY P w K mg base 1 (adK K).c_Format "top" (sp_Format_top K (adK K)) pats_Format_top := ok_Format_top (AD := adK K) (D_8 X G c) (T_ X G c) 
theorem R_check_frame (base : Heap) : CalX P w K mg base 6 "check_frame" (sp_check_frame K (adK K)) pats_check_frame := ok_check_frame (AD := adK K) (D_9 X G c) (T_ X G c) (R__check_shape X G c base) (R__sizes X G c base) (R_Format_top X G c base)
theorem R__pad_plane (base : Heap) : CalX P w K mg base 1 "_pad_plane" (sp__pad_plane K (adK K)) pats__pad_plane := ok__pad_plane (AD := adK K) (D_10 X G c) (T_ X G c) 
theorem R_Format_blocks (base : Heap) : MetX P w K mg base 1 (adK K).c_Format "blocks" (sp_Format_blocks K (adK K)) pats_Format_blocks := ok_Format_blocks (AD := adK K) (D_11 X G c) (T_ X G c) 
theorem R_Format_coded_size (base : Heap) : MetX P w K mg base 4 (adK K).c_Format "coded_size" (sp_Format_coded_size K (adK K)) pats_Format_coded_size := ok_Format_coded_size (AD := adK K) (D_12 X G c) (T_ X G c) (R_Format_blocks X G c base) (R_Format__plane_size X G c base)
theorem R__coded_sizes (base : Heap) : CalX P w K mg base 5 "_coded_sizes" (sp__coded_sizes K (adK K)) pats__coded_sizes := ok__coded_sizes (AD := adK K) (D_13 X G c) (T_ X G c) (R_Format_planes X G c base) (R_Format_coded_size X G c base)
theorem R_pad_frame (base : Heap) : CalX P w K mg base 7 "pad_frame" (sp_pad_frame K (adK K)) pats_pad_frame := ok_pad_frame (AD := adK K) (D_14 X G c) (T_ X G c) (R_check_frame X G c base) (R__coded_sizes X G c base) (R__pad_plane X G c base)
theorem R__crop_plane (base : Heap) : CalX P w K mg base 1 "_crop_plane" (sp__crop_plane K (adK K)) pats__crop_plane := ok__crop_plane (AD := adK K) (D_15 X G c) (T_ X G c) 
theorem R_crop_planes (base : Heap) : CalX P w K mg base 6 "crop_planes" (sp_crop_planes K (adK K)) pats_crop_planes := ok_crop_planes (AD := adK K) (D_16 X G c) (T_ X G c) (R__check_shape X G c base) (R__coded_sizes X G c base) (R__sizes X G c base) (R__crop_plane X G c base)
theorem R__law_refused (base : Heap) : CalX P w K mg base 7 "_law_refused" (sp__law_refused K (adK K)) pats__law_refused := ok__law_refused (AD := adK K) (D_17 X G c) (T_ X G c) (R__law_copy X G c base) (R_crop_planes X G c base)
theorem R__law_cell (base : Heap) : CalX P w K mg base 1 "_law_cell" (sp__law_cell K (adK K)) pats__law_cell := ok__law_cell (AD := adK K) (D_18 X G c) (T_ X G c) 
theorem R__law_size (base : Heap) : CalX P w K mg base 1 "_law_size" (sp__law_size K (adK K)) pats__law_size := ok__law_size (AD := adK K) (D_19 X G c) (T_ X G c) 
theorem R__law_plane (base : Heap) : CalX P w K mg base 2 "_law_plane" (sp__law_plane K (adK K)) pats__law_plane := ok__law_plane (AD := adK K) (D_20 X G c) (T_ X G c) (R__law_draws X G c base)
theorem R__law_padded (base : Heap) : CalX P w K mg base 1 "_law_padded" (sp__law_padded K (adK K)) pats__law_padded := ok__law_padded (AD := adK K) (D_21 X G c) (T_ X G c) 
theorem R__law_spoilt (base : Heap) : CalX P w K mg base 2 "_law_spoilt" (sp__law_spoilt K (adK K)) pats__law_spoilt := ok__law_spoilt (AD := adK K) (D_22 X G c) (T_ X G c) (R__law_copy X G c base)
theorem R__law_up (base : Heap) : CalX P w K mg base 1 "_law_up" (sp__law_up K (adK K)) pats__law_up := ok__law_up (AD := adK K) (D_23 X G c) (T_ X G c) 
theorem law_fact {fa : Addr} (hfa : mg "law" = some (.ref fa)) :
    ∃ fd : FuncData, (∀ (s : Shared) (v : Value), BindsTo s fd ⟨[v], []⟩ [("script", v)]) ∧ ∀ base : Heap, K.In base → base.Ns mainGlobals mg → FnG P w K mg base CX0 8 fa fd ["script"] (spL K) := by
  have e := hfa.symm.trans (He.glo_ok X G (c.fact 1 22 (l := fa1) (f := (fun K => (He.Fa.glo "law").ok K)) rfl rfl))
  cases e
  obtain ⟨fd0, F24⟩ : ∃ fd, FunD K "law" "law" (defArgs s_law) (defBody s_law) (defScope s_law) [] [] (He.ga K "law") fd := c.def_ 24 (d := dk24) rfl
  have b := FunD.bindsA (ps := ["script"]) F24 fun _ _ _ _ _ _ us hl => match us, hl with | [_], _ => rfl
  refine ⟨fd0, fun s v => b s [v] rfl, fun base _ _ => (ok_law (AD := adK K) F24 (T_ X G c) (R__law_draws X G c base) (R__law_cell X G c base) (R_Format___init__ X G c base) (R__law_size X G c base) (R__law_up X G c base) (R__law_plane X G c base) (R__law_padded X G c base) (R__law_copy X G c base) (R_pad_frame X G c base) (R_crop_planes X G c base) (R__law_refused X G c base) (R__law_spoilt X G c base)).imp ?_⟩
  rintro vs H Q E ⟨a, xs, rfl, hs, hl, q⟩
  exact ⟨a, xs, rfl, hs, by rw [law_true xs hl]; exact cW_mk rfl, q⟩
end
end Vx
open PySem PySem.W PySem.Calls PyProof.Rows
set_option maxRecDepth 100000 in
set_option maxHeartbeats 0 in
theorem PySem.Challenge.cw_thaumatrope_k03_frames_padded_and_croppe_holds : PySem.Challenge.rw_thaumatrope_k03_frames_padded_and_croppe.Holds := by
  w_on; o_law
  refine HandSHeadRun.head_any (r := (PySem.W.OpenLaw.row PySem.Challenge.rw_thaumatrope_k03_frames_padded_and_croppe)) (q := view (PySem.W.OpenLaw.row PySem.Challenge.rw_thaumatrope_k03_frames_padded_and_croppe).prog [27]) (H := Vx.hkK) (ob := Vx.obK) (M := 20000) (loose := Vx.nms) (d := HandSHeadRun.topDef (PySem.W.OpenLaw.row PySem.Challenge.rw_thaumatrope_k03_frames_padded_and_croppe).prog 27) (kwd := []) Vx.obK_eq
    (by kernel_rfl) (fun s => by kernel_rfl) Vx.runK (by kernel_rfl) (by kernel_rfl) (by kernel_rfl) (by rfl) (by first | assumption | decide +kernel) (by decide +kernel) ⟨rfl, rfl, rfl, rfl, rfl, by decide +kernel⟩ ?hw ?hc
  case hw => w_witness2
  case hc =>
    refine Vx.walkK (l := PySem.Challenge.rw_thaumatrope_k03_frames_padded_and_croppe) (n := 63) (k := 8) (x := "script") rfl (by decide) (by kernel_rfl) ⟨rfl, by decide, by decide⟩ ?F
    intro w mg fa h Y G hmg0
    obtain ⟨K, KX, c⟩ := Y
    have hmg : mg ("law" : PySem.Str) = some (.ref fa) := by
      have e : (HandSHeadRun.topDef (PySem.W.OpenLaw.row PySem.Challenge.rw_thaumatrope_k03_frames_padded_and_croppe).prog 27).name = ("law" : PySem.Str) := by kernel_rfl
      rw [← e]
      exact hmg0
    obtain ⟨fd, hb, hF⟩ := Vx.law_fact (P := (PySem.W.OpenLaw.row PySem.Challenge.rw_thaumatrope_k03_frames_padded_and_croppe).prog) KX G c hmg
    exact ⟨K, fd, KX, hb, hF⟩
